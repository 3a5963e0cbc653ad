/-
  DERIVED. GIVEN WITH THE SEED: THE CARDS: each row of YtlblkmhiildgeabDoorRows.lean that lists a variable, with what it lists TIED to the program's text (the seventh form; the later family's looks); each row that meets fmt, with fmt's text TOLD by the authors' own Lean function (tested against real Go, not proved from fmt's source: count such statements apart). THE CARD IS WHAT COUNTS. Prove the row's statement (the work); the ties are given (YtlblkmhiildgeabDoorTie.lean); close each card by the builder's one call (the guide's Derived/Test/ToyasCard.lean, 'card_holds'). Laid BY PROGRAM, IN A SANDBOX (cutbox-door.mjs). By AI agents, Wed Nov 11 2026. No macro, syntax, notation, axiom, sorry.
-/
import Derived.Test.YtlblkmhiildgeabDoorRows
import GoSem.ClaimSeven
namespace Go.Proofs.YtlblkmhiildgeabDoor
namespace Rows

/-- THE TIED CARD OF 'laws.FnExactReadDyadic'. -/
def fnExactReadDyadicCard : Claim7 := { stood := { row := fnExactReadDyadicRow, standIns := [], harness := (true, "4954d3b3a9894d6ad010e9e7fe71b5a244e594cbf5a4156f75ef50d1ab53c6cc"), looks := true }, kinds := [], alts := [], laidByText := true, laidKinds := [.data, .data, .data, .sentinel, .sentinel], laidTests := true, laidLooks := .later }
def FnExactReadDyadicCardSaid : Prop := Claim7.holds Tryd.pinned (.plain (OpenSpec.ofChange fnExactReadDyadicSpec)) fnExactReadDyadicCard

/-- THE SECOND FORM's CARD OF 'laws.FnExactReadDyadic'. -/
def fnExactReadDyadicUptoCard : Claim7 := { stood := { row := fnExactReadDyadicUptoRow, standIns := [], harness := (true, "4954d3b3a9894d6ad010e9e7fe71b5a244e594cbf5a4156f75ef50d1ab53c6cc"), looks := true }, kinds := [], alts := [], laidByText := true, laidKinds := [.data, .data, .data, .sentinel, .sentinel], laidTests := true, laidLooks := .later }
def FnExactReadDyadicUptoCardSaid : Prop := Claim7.holds Tryd.pinned (.plain (OpenSpec.upto fnExactReadDyadicSpec)) fnExactReadDyadicUptoCard
end Rows
end Go.Proofs.YtlblkmhiildgeabDoor
