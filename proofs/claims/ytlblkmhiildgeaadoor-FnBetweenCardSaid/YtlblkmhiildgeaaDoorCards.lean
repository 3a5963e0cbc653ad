/-
  DERIVED. GIVEN WITH THE SEED: THE CARDS: each row of YtlblkmhiildgeaaDoorRows.lean that lists a variable, with what it lists TIED to the program's text (the seventh form; the later family's looks); each row that meets fmt, with fmt's text TOLD by the authors' own Lean function (tested against real Go, not proved from fmt's source: count such statements apart). THE CARD IS WHAT COUNTS. Prove the row's statement (the work); the ties are given (YtlblkmhiildgeaaDoorTie.lean); close each card by the builder's one call (the guide's Derived/Test/ToyasCard.lean, 'card_holds'). Laid BY PROGRAM, IN A SANDBOX (cutbox-door.mjs). By AI agents, Wed Nov 11 2026. No macro, syntax, notation, axiom, sorry.
-/
import Derived.Test.YtlblkmhiildgeaaDoorRows
import GoSem.ClaimSeven
namespace Go.Proofs.YtlblkmhiildgeaaDoor
namespace Rows

/-- THE TIED CARD OF 'laws.FnDyadic'. -/
def fnDyadicCard : Claim7 := { stood := { row := fnDyadicRow, standIns := [], harness := (true, "27a5e555f28ccb6433ddd8da87a33ce6673fa35b3a2963505f045c3244f0e60b"), looks := true }, kinds := [], alts := [], laidByText := true, laidKinds := [.data, .data], laidTests := true, laidLooks := .later }
def FnDyadicCardSaid : Prop := Claim7.holds Tryd.pinned (.plain (OpenSpec.ofChange fnDyadicSpec)) fnDyadicCard

/-- THE TIED CARD OF 'laws.FnBetween'. -/
def fnBetweenCard : Claim7 := { stood := { row := fnBetweenRow, standIns := [], harness := (true, "27a5e555f28ccb6433ddd8da87a33ce6673fa35b3a2963505f045c3244f0e60b"), looks := true }, kinds := [], alts := [], laidByText := true, laidKinds := [.data, .data], laidTests := true, laidLooks := .later }
def FnBetweenCardSaid : Prop := Claim7.holds Tryd.pinned (.plain (OpenSpec.ofChange fnBetweenSpec)) fnBetweenCard

/-- THE TIED CARD OF 'laws.FnDyadicText'. -/
def fnDyadicTextCard : Claim7 := { stood := { row := fnDyadicTextRow, standIns := [], harness := (true, "27a5e555f28ccb6433ddd8da87a33ce6673fa35b3a2963505f045c3244f0e60b"), looks := true }, kinds := [], alts := [], laidByText := true, laidKinds := [.data, .data, .data, .sentinel, .sentinel], laidTests := true, laidLooks := .later }
def FnDyadicTextCardSaid : Prop := Claim7.holds Tryd.pinned (.plain (OpenSpec.ofChange fnDyadicTextSpec)) fnDyadicTextCard

/-- THE TIED CARD OF 'laws.FnExactMakeDyadic'. -/
def fnExactMakeDyadicCard : Claim7 := { stood := { row := fnExactMakeDyadicRow, standIns := [], harness := (true, "27a5e555f28ccb6433ddd8da87a33ce6673fa35b3a2963505f045c3244f0e60b"), looks := true }, kinds := [], alts := [], laidByText := true, laidKinds := [.data, .data], laidTests := true, laidLooks := .later }
def FnExactMakeDyadicCardSaid : Prop := Claim7.holds Tryd.pinned (.plain (OpenSpec.ofChange fnExactMakeDyadicSpec)) fnExactMakeDyadicCard

/-- THE TIED CARD OF 'laws.FnExactAddDyadic'. -/
def fnExactAddDyadicCard : Claim7 := { stood := { row := fnExactAddDyadicRow, standIns := [], harness := (true, "27a5e555f28ccb6433ddd8da87a33ce6673fa35b3a2963505f045c3244f0e60b"), looks := true }, kinds := [], alts := [], laidByText := true, laidKinds := [.data, .data], laidTests := true, laidLooks := .later }
def FnExactAddDyadicCardSaid : Prop := Claim7.holds Tryd.pinned (.plain (OpenSpec.ofChange fnExactAddDyadicSpec)) fnExactAddDyadicCard

/-- THE TIED CARD OF 'laws.FnExactHalfOf'. -/
def fnExactHalfOfCard : Claim7 := { stood := { row := fnExactHalfOfRow, standIns := [], harness := (true, "27a5e555f28ccb6433ddd8da87a33ce6673fa35b3a2963505f045c3244f0e60b"), looks := true }, kinds := [], alts := [], laidByText := true, laidKinds := [.data, .data], laidTests := true, laidLooks := .later }
def FnExactHalfOfCardSaid : Prop := Claim7.holds Tryd.pinned (.plain (OpenSpec.ofChange fnExactHalfOfSpec)) fnExactHalfOfCard

/-- THE TIED CARD OF 'laws.FnExactSimplestBetween'. -/
def fnExactSimplestBetweenCard : Claim7 := { stood := { row := fnExactSimplestBetweenRow, standIns := [], harness := (true, "27a5e555f28ccb6433ddd8da87a33ce6673fa35b3a2963505f045c3244f0e60b"), looks := true }, kinds := [], alts := [], laidByText := true, laidKinds := [.data, .data], laidTests := true, laidLooks := .later }
def FnExactSimplestBetweenCardSaid : Prop := Claim7.holds Tryd.pinned (.plain (OpenSpec.ofChange fnExactSimplestBetweenSpec)) fnExactSimplestBetweenCard

/-- THE TIED CARD OF 'laws.FnExactDyadicText'. -/
def fnExactDyadicTextCard : Claim7 := { stood := { row := fnExactDyadicTextRow, standIns := [], harness := (true, "27a5e555f28ccb6433ddd8da87a33ce6673fa35b3a2963505f045c3244f0e60b"), looks := true }, kinds := [], alts := [], laidByText := true, laidKinds := [.data, .data, .data], laidTests := true, laidLooks := .later }
def FnExactDyadicTextCardSaid : Prop := Claim7.holds Tryd.pinned (.plain (OpenSpec.ofChange fnExactDyadicTextSpec)) fnExactDyadicTextCard

/-- THE SECOND FORM's CARD OF 'laws.FnDyadic'. -/
def fnDyadicUptoCard : Claim7 := { stood := { row := fnDyadicUptoRow, standIns := [], harness := (true, "27a5e555f28ccb6433ddd8da87a33ce6673fa35b3a2963505f045c3244f0e60b"), looks := true }, kinds := [], alts := [], laidByText := true, laidKinds := [.data, .data], laidTests := true, laidLooks := .later }
def FnDyadicUptoCardSaid : Prop := Claim7.holds Tryd.pinned (.plain (OpenSpec.upto fnDyadicSpec)) fnDyadicUptoCard

/-- THE SECOND FORM's CARD OF 'laws.FnBetween'. -/
def fnBetweenUptoCard : Claim7 := { stood := { row := fnBetweenUptoRow, standIns := [], harness := (true, "27a5e555f28ccb6433ddd8da87a33ce6673fa35b3a2963505f045c3244f0e60b"), looks := true }, kinds := [], alts := [], laidByText := true, laidKinds := [.data, .data], laidTests := true, laidLooks := .later }
def FnBetweenUptoCardSaid : Prop := Claim7.holds Tryd.pinned (.plain (OpenSpec.upto fnBetweenSpec)) fnBetweenUptoCard

/-- THE SECOND FORM's CARD OF 'laws.FnDyadicText'. -/
def fnDyadicTextUptoCard : Claim7 := { stood := { row := fnDyadicTextUptoRow, standIns := [], harness := (true, "27a5e555f28ccb6433ddd8da87a33ce6673fa35b3a2963505f045c3244f0e60b"), looks := true }, kinds := [], alts := [], laidByText := true, laidKinds := [.data, .data, .data, .sentinel, .sentinel], laidTests := true, laidLooks := .later }
def FnDyadicTextUptoCardSaid : Prop := Claim7.holds Tryd.pinned (.plain (OpenSpec.upto fnDyadicTextSpec)) fnDyadicTextUptoCard

/-- THE SECOND FORM's CARD OF 'laws.FnExactMakeDyadic'. -/
def fnExactMakeDyadicUptoCard : Claim7 := { stood := { row := fnExactMakeDyadicUptoRow, standIns := [], harness := (true, "27a5e555f28ccb6433ddd8da87a33ce6673fa35b3a2963505f045c3244f0e60b"), looks := true }, kinds := [], alts := [], laidByText := true, laidKinds := [.data, .data], laidTests := true, laidLooks := .later }
def FnExactMakeDyadicUptoCardSaid : Prop := Claim7.holds Tryd.pinned (.plain (OpenSpec.upto fnExactMakeDyadicSpec)) fnExactMakeDyadicUptoCard

/-- THE SECOND FORM's CARD OF 'laws.FnExactAddDyadic'. -/
def fnExactAddDyadicUptoCard : Claim7 := { stood := { row := fnExactAddDyadicUptoRow, standIns := [], harness := (true, "27a5e555f28ccb6433ddd8da87a33ce6673fa35b3a2963505f045c3244f0e60b"), looks := true }, kinds := [], alts := [], laidByText := true, laidKinds := [.data, .data], laidTests := true, laidLooks := .later }
def FnExactAddDyadicUptoCardSaid : Prop := Claim7.holds Tryd.pinned (.plain (OpenSpec.upto fnExactAddDyadicSpec)) fnExactAddDyadicUptoCard

/-- THE SECOND FORM's CARD OF 'laws.FnExactHalfOf'. -/
def fnExactHalfOfUptoCard : Claim7 := { stood := { row := fnExactHalfOfUptoRow, standIns := [], harness := (true, "27a5e555f28ccb6433ddd8da87a33ce6673fa35b3a2963505f045c3244f0e60b"), looks := true }, kinds := [], alts := [], laidByText := true, laidKinds := [.data, .data], laidTests := true, laidLooks := .later }
def FnExactHalfOfUptoCardSaid : Prop := Claim7.holds Tryd.pinned (.plain (OpenSpec.upto fnExactHalfOfSpec)) fnExactHalfOfUptoCard

/-- THE SECOND FORM's CARD OF 'laws.FnExactSimplestBetween'. -/
def fnExactSimplestBetweenUptoCard : Claim7 := { stood := { row := fnExactSimplestBetweenUptoRow, standIns := [], harness := (true, "27a5e555f28ccb6433ddd8da87a33ce6673fa35b3a2963505f045c3244f0e60b"), looks := true }, kinds := [], alts := [], laidByText := true, laidKinds := [.data, .data], laidTests := true, laidLooks := .later }
def FnExactSimplestBetweenUptoCardSaid : Prop := Claim7.holds Tryd.pinned (.plain (OpenSpec.upto fnExactSimplestBetweenSpec)) fnExactSimplestBetweenUptoCard

/-- THE SECOND FORM's CARD OF 'laws.FnExactDyadicText'. -/
def fnExactDyadicTextUptoCard : Claim7 := { stood := { row := fnExactDyadicTextUptoRow, standIns := [], harness := (true, "27a5e555f28ccb6433ddd8da87a33ce6673fa35b3a2963505f045c3244f0e60b"), looks := true }, kinds := [], alts := [], laidByText := true, laidKinds := [.data, .data, .data], laidTests := true, laidLooks := .later }
def FnExactDyadicTextUptoCardSaid : Prop := Claim7.holds Tryd.pinned (.plain (OpenSpec.upto fnExactDyadicTextSpec)) fnExactDyadicTextUptoCard
end Rows
end Go.Proofs.YtlblkmhiildgeaaDoor
