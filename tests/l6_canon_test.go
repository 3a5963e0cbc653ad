package tests

import (
	"fmt"
	"slices"
	"strings"
	"testing"

	"loop.example/g00868/impl"
)

// A referee follows the document's words on the numbers of a catalog, without forms, limits and tables of nodes.
type referee struct {
	*catalog
	least  map[[2]int]bool
	canons map[int]int
}

// refereeOf numbers the subpositions of f as f.Nodes does, so numbers are in the order of chapter 3 until more games are entered.
func refereeOf(f impl.Form) (*referee, int) {
	r := &referee{catalog: newCatalog(), least: map[[2]int]bool{}, canons: map[int]int{}}
	return r, r.read(f)
}

func (r *referee) atLeast(a int, b int) bool {
	key := [2]int{a, b}
	if least, found := r.least[key]; found {
		return least
	}
	least := !slices.ContainsFunc(r.games[a][1], func(right int) bool { return r.atLeast(b, right) })
	least = least && !slices.ContainsFunc(r.games[b][0], func(left int) bool { return r.atLeast(left, a) })
	r.least[key] = least
	return least
}

// good reports whether a is at least b for the player of a side, 0 for Left.
func (r *referee) good(side int, a int, b int) bool {
	if side == 0 {
		return r.atLeast(a, b)
	}
	return r.atLeast(b, a)
}

func (r *referee) dominated(a int, side int) []int {
	options := r.games[a][side]
	var places []int
	for i, option := range options {
		for k, other := range options {
			if k != i && r.good(side, other, option) && (!r.good(side, option, other) || k < i) {
				places = append(places, i)
				break
			}
		}
	}
	return places
}

func (r *referee) reversible(a int, side int) []int {
	var places []int
	for i, option := range r.games[a][side] {
		if slices.ContainsFunc(r.games[option][1-side], func(reply int) bool { return r.good(side, a, reply) }) {
			places = append(places, i)
		}
	}
	return places
}

func (r *referee) without(a int, side int, places []int) int {
	lists := r.games[a]
	lists[side] = nil
	for i, option := range r.games[a][side] {
		if !slices.Contains(places, i) {
			lists[side] = append(lists[side], option)
		}
	}
	return r.enter(lists[0], lists[1])
}

func (r *referee) dropped(a int) int {
	left, right := r.dominated(a, 0), r.dominated(a, 1)
	return r.without(r.without(a, 0, left), 1, right)
}

func (r *referee) bypassed(a int) (int, bool) {
	for side := range 2 {
		for _, place := range r.reversible(a, side) {
			for _, reply := range r.games[r.games[a][side][place]][1-side] {
				if r.good(side, a, reply) {
					lists := r.games[r.without(a, side, ints(place))]
					lists[side] = slices.Concat(lists[side], r.games[reply][side])
					return r.enter(lists[0], lists[1]), true
				}
			}
		}
	}
	return 0, false
}

// canon takes one option at a time, and the last one of several, so that the order in which options go does not matter.
func (r *referee) canon(a int) int {
	if number, found := r.canons[a]; found {
		return number
	}
	var lists [2][]int
	for side, options := range r.games[a] {
		for _, option := range options {
			lists[side] = append(lists[side], r.canon(option))
		}
	}
	game, changed := r.enter(lists[0], lists[1]), true
	for changed {
		changed = false
		for side := range 2 {
			if places := r.dominated(game, side); len(places) > 0 {
				game, changed = r.without(game, side, places[len(places)-1:]), true
			}
		}
		if next, ok := r.bypassed(game); ok {
			game, changed = next, true
		}
	}
	r.canons[a] = game
	return game
}

func (r *referee) isCanon(a int) bool {
	return !slices.ContainsFunc(r.parts(a), func(part int) bool {
		return len(r.dominated(part, 0))+len(r.dominated(part, 1))+len(r.reversible(part, 0))+len(r.reversible(part, 1)) > 0
	})
}

func wantSides(t *testing.T, name string, left []int, right []int, ok bool, lefts []int, rights []int) {
	t.Helper()
	if !slices.Equal(left, lefts) || !slices.Equal(right, rights) || !ok {
		t.Errorf("%s = %v, %v, %v, want %v, %v, true", name, left, right, ok, lefts, rights)
	}
}

func wantNoSides(t *testing.T, name string, left []int, right []int, ok bool) {
	t.Helper()
	if len(left) != 0 || len(right) != 0 || ok {
		t.Errorf("%s = %v, %v, %v, want empty slices and false", name, left, right, ok)
	}
}

func wantCanon(t *testing.T, name string, f impl.Form, want impl.Form) {
	t.Helper()
	got, ok := impl.CanonOf(f)
	wantForm(t, "CanonOf "+name, got, ok, want)
}

func wantNoCanon(t *testing.T, name string, f impl.Form) {
	t.Helper()
	got, ok := impl.CanonOf(f)
	wantNoForm(t, "CanonOf "+name, got, ok)
}

func wantCanonSum(t *testing.T, name string, want impl.Form, l ...impl.Form) {
	t.Helper()
	got, ok := impl.CanonSum(l)
	wantForm(t, "CanonSum of "+name, got, ok, want)
}

func wantNoCanonSum(t *testing.T, name string, l ...impl.Form) {
	t.Helper()
	got, ok := impl.CanonSum(l)
	wantNoForm(t, "CanonSum of "+name, got, ok)
}

func canonOf(t *testing.T, f impl.Form) impl.Form {
	t.Helper()
	c, ok := impl.CanonOf(f)
	if !ok {
		t.Fatalf("CanonOf %d nodes fails", len(f.Nodes))
	}
	return c
}

// wantSteps checks all functions of one game by the document's words, and returns whether the canonical form is within the limits.
func wantSteps(t *testing.T, name string, f impl.Form) bool {
	t.Helper()
	r, a := refereeOf(f)
	left, right, ok := impl.DominatedIn(f)
	wantSides(t, "DominatedIn "+name, left, right, ok, r.dominated(a, 0), r.dominated(a, 1))
	left, right, ok = impl.ReversibleIn(f)
	wantSides(t, "ReversibleIn "+name, left, right, ok, r.reversible(a, 0), r.reversible(a, 1))
	is, ok := impl.IsCanon(f)
	wantBool(t, "IsCanon "+name, is, ok, r.isCanon(a))
	g, ok := impl.DropForm(f)
	r.want(t, "DropForm of "+name, g, ok, r.dropped(a))
	g, ok = impl.BypassForm(f)
	if number, found := r.bypassed(a); found {
		r.want(t, "BypassForm of "+name, g, ok, number)
	} else {
		wantNoForm(t, "BypassForm of "+name, g, ok)
	}
	c, ok := impl.CanonOf(f)
	r.want(t, "CanonOf "+name, c, ok, r.canon(a))
	return ok
}

// short reads a game in which small games have their names.
func short(t *testing.T, s string) impl.Form {
	t.Helper()
	return read(t, strings.NewReplacer("-1", "{|{|}}", "-2", "{|{|{|}}}", "0", "{|}", "1", "{{|}|}", "2", "{{{|}|}|}", "*", "{{|}|{|}}", "^", "{{|}|{{|}|{|}}}", "v", "{{{|}|{|}}|{|}}").Replace(s))
}

func TestP6KnownGames(t *testing.T) {
	for _, c := range []struct {
		game                               string
		lower, higher, leftBack, rightBack []int
		dropped, bypassed, canon           string
	}{
		{"{0,1|}", ints(0), nil, nil, nil, "2", "", "2"},
		{"{|0,-1}", nil, ints(0), nil, nil, "-2", "", "-2"},
		{"{0,1|1}", ints(0), nil, nil, nil, "{1|1}", "", "{1|1}"},
		{"{-1|0,-1}", nil, ints(0), nil, nil, "{-1|-1}", "", "{-1|-1}"},
		{"{0|0,-1}", nil, ints(0), nil, nil, "{0|-1}", "", "{0|-1}"},
		{"{0,-1|0,1}", ints(1), ints(1), nil, nil, "*", "", "*"},
		{"{0,-1,1,*|0,-1,1,*}", ints(0, 1, 3), ints(0, 2, 3), nil, nil, "{1|-1}", "", "{1|-1}"},
		// Bypassed through a position without options.
		{"{*|}", nil, nil, ints(0), nil, "{*|}", "0", "0"},
		{"{|*}", nil, nil, nil, ints(0), "{|*}", "0", "0"},
		{"{-1|}", nil, nil, ints(0), nil, "{-1|}", "0", "0"},
		{"{|1}", nil, nil, nil, ints(0), "{|1}", "0", "0"},
		{"{0,*|}", nil, nil, ints(1), nil, "{0,*|}", "1", "1"},
		{"{|0,*}", nil, nil, nil, ints(1), "{|0,*}", "-1", "-1"},
		{"{0,*|1}", nil, nil, ints(1), nil, "{0,*|1}", "{0|1}", "{0|1}"},
		{"{-1|0,*}", nil, nil, nil, ints(1), "{-1|0,*}", "{-1|0}", "{-1|0}"},
		// Options of both players are reversible, and Left's are first.
		{"{*|*}", nil, nil, ints(0), ints(0), "{*|*}", "{|*}", "0"},
		{"{-1|1}", nil, nil, ints(0), ints(0), "{-1|1}", "{|1}", "0"},
		{"{^|v}", nil, nil, ints(0), ints(0), "{^|v}", "{0|v}", "*"},
		// Only one player has reversible options.
		{"{^|^}", nil, nil, ints(0), nil, "{^|^}", "{0|^}", "{0|^}"},
		{"{v|v}", nil, nil, nil, ints(0), "{v|v}", "{v|0}", "{v|0}"},
		// Dominated and reversible options beside each other.
		{"{0,-1,*|1}", ints(1), nil, ints(1, 2), nil, "{0,*|1}", "{0,*|1}", "{0|1}"},
		{"{-1,{-2|0}|0,*}", ints(1), nil, nil, ints(1), "{-1|0,*}", "{-1,{-2|0}|0}", "{-1|0}"},
		{"{0,1,*|}", ints(0, 2), nil, ints(2), nil, "2", "{0,1|}", "2"},
		{"{|0,-1,*}", nil, ints(0, 2), nil, ints(2), "-2", "{|0,-1}", "-2"},
		{"{0,*|1,{0|2}}", nil, ints(1), ints(1), nil, "{0,*|1}", "{0|1,{0|2}}", "{0|1}"},
		// Options that are dominated and reversible.
		{"{0,-1|}", ints(1), nil, ints(1), nil, "1", "1", "1"},
		{"{|0,1}", nil, ints(1), nil, ints(1), "-1", "-1", "-1"},
		{"{1,{0|-1}|}", ints(1), nil, ints(1), nil, "2", "2", "2"},
		{"{|-1,{1|0}}", nil, ints(1), nil, ints(1), "-2", "-2", "-2"},
		// Of equal options the first is kept.
		{"{0,{*|*}|}", ints(1), nil, ints(1), nil, "1", "1", "1"},
		{"{|0,{*|*}}", nil, ints(1), nil, ints(1), "-1", "-1", "-1"},
		{"{{-1|1},{*|*}|}", ints(1), nil, ints(0, 1), nil, "{{-1|1}|}", "{0,{*|*}|}", "1"},
		{"{|{-1|1},{*|*}}", nil, ints(1), nil, ints(0, 1), "{|{-1|1}}", "{|0,{*|*}}", "-1"},
		{"{{|1},{-1|1},{*|*}|}", ints(1, 2), nil, ints(0, 1, 2), nil, "{{|1}|}", "{0,{-1|1},{*|*}|}", "1"},
		{"{|{-1|},{-1|1},{*|*}}", nil, ints(1, 2), nil, ints(0, 1, 2), "{|{-1|}}", "{|0,{-1|1},{*|*}}", "-1"},
		{"{0,2,{*|*}|}", ints(0, 2), nil, ints(2), nil, "{2|}", "{0,2|}", "{2|}"},
		{"{|0,-2,{*|*}}", nil, ints(0, 2), nil, ints(2), "{|-2}", "{|0,-2}", "{|-2}"},
		// Of several positions to bypass through the first counts, and only one that is good enough.
		{"{1,{|0,1}|}", ints(1), nil, ints(1), nil, "2", "2", "2"},
		{"{|-1,{0,-1|}}", nil, ints(1), nil, ints(1), "-2", "-2", "-2"},
		{"{{|1,{-1|-2}}|1}", nil, nil, ints(0), ints(0), "{{|1,{-1|-2}}|1}", "{-1|1}", "0"},
		{"{1,{|1,{0|-1}}|2}", ints(1), nil, ints(1), nil, "{1|2}", "{0,1|2}", "{1|2}"},
		// No option of the game itself is dominated or reversible, but one below it is.
		{"{{0,1|}|-1}", nil, nil, nil, nil, "{{0,1|}|-1}", "", "{2|-1}"},
		{"{1|{|0,-1}}", nil, nil, nil, nil, "{1|{|0,-1}}", "", "{1|-2}"},
		{"{{0,*|}|{|0,*}}", nil, nil, nil, nil, "{{0,*|}|{|0,*}}", "", "{1|-1}"},
		{"{{{*|*}|}|{|{*|*}}}", nil, nil, nil, nil, "{{{*|*}|}|{|{*|*}}}", "", "{1|-1}"},
	} {
		f := short(t, c.game)
		left, right, ok := impl.DominatedIn(f)
		wantSides(t, "DominatedIn "+c.game, left, right, ok, c.lower, c.higher)
		left, right, ok = impl.ReversibleIn(f)
		wantSides(t, "ReversibleIn "+c.game, left, right, ok, c.leftBack, c.rightBack)
		g, ok := impl.DropForm(f)
		wantForm(t, "DropForm of "+c.game, g, ok, short(t, c.dropped))
		g, ok = impl.BypassForm(f)
		if c.bypassed == "" {
			wantNoForm(t, "BypassForm of "+c.game, g, ok)
		} else {
			wantForm(t, "BypassForm of "+c.game, g, ok, short(t, c.bypassed))
		}
		wantCanon(t, c.game, f, short(t, c.canon))
		is, ok := impl.IsCanon(f)
		wantBool(t, "IsCanon "+c.game, is, ok, false)
		wantSteps(t, c.game, f)
	}
}

// wantCanonical checks that no function has anything to change in f.
func wantCanonical(t *testing.T, name string, f impl.Form) {
	t.Helper()
	left, right, ok := impl.DominatedIn(f)
	wantSides(t, "DominatedIn "+name, left, right, ok, nil, nil)
	left, right, ok = impl.ReversibleIn(f)
	wantSides(t, "ReversibleIn "+name, left, right, ok, nil, nil)
	g, ok := impl.DropForm(f)
	wantForm(t, "DropForm of "+name, g, ok, f)
	g, ok = impl.BypassForm(f)
	wantNoForm(t, "BypassForm of "+name, g, ok)
	is, ok := impl.IsCanon(f)
	wantBool(t, "IsCanon "+name, is, ok, true)
	wantCanon(t, name, f, f)
	wantCanonSum(t, name, f, f)
}

func TestP6GamesInCanonicalForm(t *testing.T) {
	for _, name := range strings.Fields("0 1 -1 2 -2 * ^ v {1|-1} {1|1} {-1|-1} {0|1} {-1|0} {1|0} {0|-1} {1|*} {*|-1} {0,*|0} {0|0,*} {0|^} {v|0} {0,*|0,*} {1|{0|-1}} {{1|0}|-1} {{2|1}|{-1|-2}} {0|{0|-1}} {{1|0}|0} {^|-1} {1|v} {2,{2|0}|-1}") {
		wantCanonical(t, name, short(t, name))
	}
	for nodes := 1; nodes <= mostNodes; nodes++ {
		wantCanonical(t, fmt.Sprint("the integer ", nodes-1), chainOf(nodes))
		wantCanonical(t, fmt.Sprint("the integer ", 1-nodes), minusChain(nodes))
	}
	for n := range mostOptions + 1 {
		wantCanonical(t, fmt.Sprint("*", n), nimber(n))
	}
	for n := 1; n <= 50; n++ {
		wantCanonical(t, fmt.Sprint("the switch ", n), made(t, []impl.Form{integer(n)}, []impl.Form{integer(-n)}))
	}
}

// Node i of a tower is the nimber i mod 25, and node i of a ladder the nimber i mod 2.
func TestP6KnownCanonicalForms(t *testing.T) {
	for i := range mostNodes {
		wantCanon(t, fmt.Sprint("of tower ", i), towerOf(i+1), nimber(i%(mostOptions+1)))
		wantCanon(t, fmt.Sprint("of ladder ", i), ladderOf(i+1), nimber(i%2))
	}
	for n := 1; n <= mostOptions; n++ {
		wantCanon(t, fmt.Sprint("of all below ", n), withAllOptions(n, true, false), chainOf(n+1))
		wantCanon(t, fmt.Sprint("of all below on the right ", n), withAllOptions(n, false, true), minusChain(2))
		wantCanon(t, fmt.Sprint("of all to both sides ", n), withAllOptions(n, true, true), made(t, []impl.Form{integer(n - 1)}, []impl.Form{zeroGame()}))
	}
	for i, row := range equalGames(t) {
		for k, f := range row {
			wantCanon(t, fmt.Sprintf("of equal games %d, %d", i, k), f, row[0])
		}
	}
}

func TestP6StepsOfDay2(t *testing.T) {
	for i, f := range plainForms(plainDay2()) {
		if !wantSteps(t, fmt.Sprint("game ", i), f) {
			t.Error("no canonical form of game", i)
		}
	}
}

// crowded has options of both players from many games of day 2, so that many of them are equal, dominated or reversible.
func crowded(t *testing.T, count int) []impl.Form {
	t.Helper()
	pool := append(plainForms(plainDay2()), sample()...)
	var l []impl.Form
	for step := 1; len(l) < count; {
		var lists [2][]impl.Form
		for side := range lists {
			step = step * 48271 % 2147483647
			for range step / 64 % 9 {
				step = step * 48271 % 2147483647
				lists[side] = append(lists[side], pool[step/64%len(pool)])
			}
		}
		if f, ok := impl.MakeForm(lists[0], lists[1]); ok {
			l = append(l, f)
			pool = append(pool, f)
		}
	}
	return l
}

func TestP6StepsOfMixedGames(t *testing.T) {
	for i, f := range append(sample(), crowded(t, 300)...) {
		if !wantSteps(t, fmt.Sprint("mixed game ", i), f) {
			t.Error("no canonical form of mixed game", i)
		}
	}
	for nodes := 3; nodes <= 40; nodes++ {
		for i, f := range tangles(nodes, 15) {
			wantSteps(t, fmt.Sprintf("tangle %d of %d nodes", i, nodes), f)
		}
	}
}

func TestP6StepsOfLongestGames(t *testing.T) {
	for i, f := range longest() {
		wantSteps(t, fmt.Sprint("long game ", i), f)
		wantSteps(t, fmt.Sprint("the negative of long game ", i), negated(t, f))
	}
}

// stepped drops and bypasses until nothing changes.
func stepped(g impl.Form, bypassFirst bool) impl.Form {
	for {
		bypassed, ok := impl.BypassForm(g)
		dropped, _ := impl.DropForm(g)
		switch {
		case ok && bypassFirst:
			g = bypassed
		case !sameNodes(dropped, g):
			g = dropped
		case ok:
			g = bypassed
		default:
			return g
		}
	}
}

func TestP6StepsLeadToTheCanonicalForm(t *testing.T) {
	for i, f := range append(append(plainForms(plainDay2()), sample()...), crowded(t, 200)...) {
		left, right, _ := impl.OptionsOf(f)
		for _, options := range [][]impl.Form{left, right} {
			for k := range options {
				options[k] = canonOf(t, options[k])
			}
		}
		for _, bypassFirst := range []bool{true, false} {
			wantCanon(t, fmt.Sprint("of game ", i), f, stepped(made(t, left, right), bypassFirst))
		}
	}
}

func TestP6EachStepIsEqual(t *testing.T) {
	for i, f := range append(append(plainForms(plainDay2()), sample()...), crowded(t, 200)...) {
		g, ok := impl.DropForm(f)
		wantBool(t, fmt.Sprint("DropForm of game ", i), ok, ok, true)
		wantOrder(t, fmt.Sprintf("game %d and without dominated options", i), f, g, impl.OutSecond)
		left, right, ok := impl.DominatedIn(g)
		wantSides(t, fmt.Sprintf("DominatedIn game %d without dominated options", i), left, right, ok, nil, nil)
		if g, ok = impl.BypassForm(f); ok {
			wantOrder(t, fmt.Sprintf("game %d and with an option bypassed", i), f, g, impl.OutSecond)
		}
	}
}

func TestP6OneFormForEqualGames(t *testing.T) {
	forms := plainForms(plainDay2())
	canonical := 0
	for i, f := range forms {
		c := canonOf(t, f)
		if sameNodes(c, f) {
			canonical++
			wantCanonical(t, fmt.Sprint("game ", i), f)
		} else if is, ok := impl.IsCanon(f); is || !ok {
			t.Errorf("IsCanon of game %d = %v, %v, but its canonical form is another", i, is, ok)
		}
		for k, g := range forms {
			least, most := plainOrder(f, g)
			if same := sameNodes(c, canonOf(t, g)); same != (least && most) {
				t.Errorf("games %d, %d have the same canonical form: %v", i, k, same)
			}
			if least && most && len(g.Nodes) < len(c.Nodes) {
				t.Errorf("game %d equals game %d and has less than %d nodes", k, i, len(c.Nodes))
			}
		}
	}
	if canonical != 22 {
		t.Error(canonical, "games of day 2 are in canonical form, want 22")
	}
}

func TestP6OneFormForEqualMixedGames(t *testing.T) {
	forms := append(sample(), crowded(t, 150)...)
	var canons []impl.Form
	for _, f := range forms {
		canons = append(canons, canonOf(t, f))
	}
	equal := 0
	for i, f := range forms {
		for k, g := range forms[:i] {
			least, most := plainOrder(f, g)
			if same := sameNodes(canons[i], canons[k]); same != (least && most) {
				t.Errorf("mixed games %d, %d have the same canonical form: %v", i, k, same)
			} else if same {
				equal++
			}
		}
	}
	if equal < 100 {
		t.Error("only", equal, "pairs of equal games")
	}
}

func wantFewest(t *testing.T, name string, f impl.Form) {
	t.Helper()
	c := canonOf(t, f)
	if len(c.Nodes) > len(f.Nodes) {
		t.Errorf("the canonical form of %s has %d nodes instead of %d", name, len(c.Nodes), len(f.Nodes))
	}
	wantOrder(t, name+" and its canonical form", f, c, impl.OutSecond)
	is, ok := impl.IsCanon(c)
	wantBool(t, "IsCanon of the canonical form of "+name, is, ok, true)
	wantCanon(t, "of the canonical form of "+name, c, c)
	wantCanon(t, "of the negative of "+name, negated(t, f), negated(t, c))
}

func TestP6EqualToItsGame(t *testing.T) {
	forms := append(append(plainForms(plainDay2()), sample()...), crowded(t, 200)...)
	for i, f := range append(forms, longest()...) {
		wantFewest(t, fmt.Sprint("game ", i), f)
	}
}

func TestP6EqualToItsGameInSums(t *testing.T) {
	forms := append(sample(), crowded(t, 100)...)
	others := pick(t, named(t), "1 * up ±1 1/2 *2 {*|} {0,*|0} {1,*|0,-1}")
	sums := 0
	for i, f := range forms {
		c := canonOf(t, f)
		for k, g := range others {
			with, ok := impl.SumForms(f, g)
			if !ok {
				continue
			}
			sums++
			name := fmt.Sprintf("game %d and %d", i, k)
			short := added(t, c, g)
			wantOrder(t, "the sums of "+name, with, short, impl.OutSecond)
			wantOutcome(t, "the sum of "+name, short, plainClass(plainOrder(with, zeroGame())))
			wantCanon(t, "of the sum of "+name, with, canonOf(t, short))
			wantCanonSum(t, name, canonOf(t, with), f, g)
			wantCanonSum(t, name+" in reverse", canonOf(t, with), g, f)
		}
	}
	if sums < 500 {
		t.Error("only", sums, "sums")
	}
}

// wide bypasses one of its left options to switches, none of which is comparable with its nimbers or with each other.
func wide(t *testing.T, nimbers int, switches int) (impl.Form, []impl.Form, []impl.Form) {
	t.Helper()
	low := []impl.Form{integer(-25)}
	var left, behind []impl.Form
	for n := range nimbers {
		left = append(left, nimber(n))
	}
	for n := 1; n <= switches; n++ {
		behind = append(behind, made(t, []impl.Form{integer(n)}, []impl.Form{integer(-n)}))
	}
	back := made(t, []impl.Form{integer(24)}, []impl.Form{made(t, behind, low)})
	return made(t, append(left, back), low), append(left, behind...), low
}

func TestP6MostOptionsOfResults(t *testing.T) {
	for nimbers := range mostOptions {
		for switches := max(1, 23-nimbers); switches <= min(27-nimbers, mostOptions); switches++ {
			f, left, right := wide(t, nimbers, switches)
			name := fmt.Sprintf("%d nimbers and %d switches", nimbers, switches)
			bypassed, ok := impl.BypassForm(f)
			mirrored, fine := impl.BypassForm(negated(t, f))
			if nimbers+switches > mostOptions {
				wantNoForm(t, "BypassForm of "+name, bypassed, ok)
				wantNoForm(t, "BypassForm of the negative of "+name, mirrored, fine)
				wantNoCanon(t, "of "+name, f)
				wantNoCanon(t, "of the negative of "+name, negated(t, f))
				wantNoCanonSum(t, name, f)
				continue
			}
			want := made(t, left, right)
			wantForm(t, "BypassForm of "+name, bypassed, ok, want)
			wantForm(t, "BypassForm of the negative of "+name, mirrored, fine, negated(t, want))
			wantCanon(t, "of "+name, f, want)
			wantCanon(t, "of the negative of "+name, negated(t, f), negated(t, want))
			wantCanonSum(t, name, want, f)
		}
	}
}

// The limits hold for results, and not for what is there on the way to them.
func TestP6ManyOptionsOnTheWay(t *testing.T) {
	f, left, low := wide(t, 22, 23)
	options, _, _ := impl.OptionsOf(f)
	over := made(t, append(options, integer(24)), low)
	wantSteps(t, "a game of options dominated by 24", over)
	wantCanon(t, "of a game of options dominated by 24", over, made(t, []impl.Form{integer(24)}, low))
	f, left, low = wide(t, 23, 24)
	if len(left) <= mostOptions {
		t.Fatal("too few options")
	}
	wantSteps(t, "a game of too many options", f)
	above := made(t, []impl.Form{f, integer(26)}, nil)
	wantSteps(t, "27 beside a game of too many options", above)
	wantCanon(t, "27 beside a game of too many options", above, integer(27))
	wantCanonSum(t, "27 beside a game of too many options, and -1", integer(26), above, integer(-1))
	for name, g := range map[string]impl.Form{"left": made(t, []impl.Form{f}, []impl.Form{integer(-26)}), "right": made(t, []impl.Form{integer(26)}, []impl.Form{f})} {
		wantNoCanon(t, "with a game of too many options on the "+name, g)
		wantNoCanonSum(t, "a game of too many options on the "+name, zeroGame(), g)
		wantSteps(t, "a game of too many options on the "+name, g)
	}
}

// Options that are there already count once.
func TestP6BypassToOptionsThatAreThere(t *testing.T) {
	for behind := 1; behind <= mostOptions; behind++ {
		for extra := range 3 {
			options := []impl.Form{integer(-1), integer(-2)}[:extra]
			reply := made(t, append(options, chains(1, behind-len(options))...), nil)
			f := made(t, append(chains(1, mostOptions-1), made(t, nil, []impl.Form{reply})), nil)
			g, ok := impl.BypassForm(f)
			if name := fmt.Sprintf("BypassForm to %d options, %d of them new", behind, extra); extra > 1 || behind == mostOptions && extra == 0 {
				wantNoForm(t, name, g, ok)
			} else {
				wantForm(t, name, g, ok, made(t, append(options, chains(1, mostOptions-1)...), nil))
			}
		}
	}
}

func TestP6CanonSumOfNone(t *testing.T) {
	for _, none := range [][]impl.Form{nil, {}, make([]impl.Form, 0, 5)} {
		wantCanonSum(t, "nothing", zeroGame(), none...)
	}
}

func TestP6KnownCanonSums(t *testing.T) {
	for _, c := range []struct{ games, sum string }{
		{"0", "0"}, {"1", "1"}, {"* *", "0"}, {"* * *", "*"}, {"1 -1", "0"}, {"1 1", "2"}, {"{0|1} {0|1}", "1"}, {"{-1|0} {-1|0} 1", "0"}, {"^ v", "0"}, {"^ *", "{0,*|0}"}, {"v *", "{0|0,*}"}, {"^ ^ *", "{0|^}"}, {"{1|-1} {1|-1}", "0"}, {"{1|-1} 1", "{2|0}"},
		{"{0,1|}", "2"}, {"{*|}", "0"}, {"{*|} {|*} {*|*}", "0"}, {"{-1|1} {0,*|} {|0,-1}", "-1"}, {"{2|0} -1 {1|-1} *", "*"}, {"{1|0} {1|0}", "1"}, {"{1|0} *", "{{1|1}|*}"}, {"{1|0} {0|-1}", "0"}, {"0 0 * 0 0", "*"}, {"{1|-1} {2|-2}", "{{{2|}|1}|{-1|{|-2}}}"},
	} {
		var l []impl.Form
		for _, game := range strings.Fields(c.games) {
			l = append(l, short(t, game))
		}
		sum := short(t, c.sum)
		wantCanonSum(t, c.games, canonOf(t, sum), l...)
		slices.Reverse(l)
		wantCanonSum(t, c.games+" in reverse", canonOf(t, sum), l...)
	}
}

func TestP6CanonSumOfMostElements(t *testing.T) {
	up := short(t, "^")
	for count := range mostSummed + 1 {
		wantCanonSum(t, fmt.Sprint(count, " times 1"), chainOf(count+1), slices.Repeat(chains(2, 2), count)...)
		wantCanonSum(t, fmt.Sprint(count, " times -9"), minusChain(9*count+1), slices.Repeat([]impl.Form{integer(-9)}, count)...)
		wantCanonSum(t, fmt.Sprint(count, " times *"), nimber(count%2), slices.Repeat([]impl.Form{nimber(1)}, count)...)
		wantCanonSum(t, fmt.Sprint(count, " times 0"), zeroGame(), slices.Repeat([]impl.Form{zeroGame()}, count)...)
		// The sums of games as they are would be beyond the limits.
		wantCanonSum(t, fmt.Sprint(count, " times a game of value 0"), zeroGame(), slices.Repeat([]impl.Form{ladderOf(119)}, count)...)
		wantCanonSum(t, fmt.Sprint(count, " times a game of value *"), nimber(count%2), slices.Repeat([]impl.Form{ladderOf(120)}, count)...)
		wantCanonSum(t, fmt.Sprint(count, " times a game of value *2"), nimber(count%2*2), slices.Repeat([]impl.Form{towerOf(103)}, count)...)
		all, ok := impl.TimesForm(count, up)
		wantBool(t, "TimesForm", ok, ok, true)
		wantCanonSum(t, fmt.Sprint(count, " times up"), canonOf(t, all), slices.Repeat([]impl.Form{up}, count)...)
	}
	for _, f := range []impl.Form{zeroGame(), chainOf(2), nimber(1), ladderOf(119), {}, chainOf(mostNodes + 1)} {
		for _, many := range []int{mostSummed + 1, mostSummed + 2, 24, 100, 1000000} {
			wantNoCanonSum(t, fmt.Sprint(many, " games"), slices.Repeat([]impl.Form{f}, many)...)
		}
	}
}

func TestP6CanonSumInOrder(t *testing.T) {
	for _, c := range []struct {
		numbers []int
		good    bool
	}{
		{ints(39, 39), true}, {ints(40, 39), false}, {ints(39, 39, 19), true}, {ints(39, 19, 39), false}, {ints(119), true}, {ints(119, 1), false}, {ints(118, 1), true}, {ints(0, 119, 0), true}, {ints(12, 99, 8), true}, {ints(12, 99, 9), false}, {ints(10, 10, 10, 10, 10, 10, 10, 10, 10, 10, 10, 9), true}, {ints(10, 10, 10, 10, 10, 10, 10, 10, 10, 10, 10, 10), false},
		// The sum of two numbers that are not both positive has a node for each pair of theirs, before its canonical form is taken.
		{ints(9, -9), true}, {ints(10, -10), false}, {ints(9, -9, 9, -9, 9, -9), true}, {ints(5, -10, 5), true}, {ints(5, 5, -10), false}, {ints(39, -2), true}, {ints(39, -3), false}, {ints(39, 39, -1), false}, {ints(39, 19, -1, -1), true}, {ints(40, -1, 39), true}, {ints(40, 39, -1), false}, {ints(10, -10, 0), false}, {ints(0, 10, -9), true},
	} {
		var l, minus []impl.Form
		sum := 0
		for _, n := range c.numbers {
			l, minus = append(l, integer(n)), append(minus, integer(-n))
			sum += n
		}
		name := fmt.Sprint("the integers ", c.numbers)
		if !c.good {
			wantNoCanonSum(t, name, l...)
			wantNoCanonSum(t, "the negatives of "+name, minus...)
			continue
		}
		wantCanonSum(t, name, integer(sum), l...)
		wantCanonSum(t, "the negatives of "+name, integer(-sum), minus...)
	}
}

// canonSumOf follows the steps of the document, whose functions are checked by themselves.
func canonSumOf(l []impl.Form) (impl.Form, bool) {
	sum := zeroGame()
	for _, f := range l {
		c, ok := impl.CanonOf(f)
		next, fine := impl.SumForms(sum, c)
		next, good := impl.CanonOf(next)
		if !ok || !fine || !good {
			return impl.Form{}, false
		}
		sum = next
	}
	return sum, true
}

func TestP6CanonSumsOfMixedGames(t *testing.T) {
	forms := append(sample(), crowded(t, 100)...)
	step, together := 17, 0
	good := map[bool]int{}
	for range 700 {
		var l []impl.Form
		for range step / 16 % (mostSummed + 1) {
			step = step * 48271 % 2147483647
			f := forms[step/16%len(forms)]
			if step%5 > 1 {
				f = forms[step/16%12]
			}
			l = append(l, f)
		}
		step = step * 48271 % 2147483647
		name := fmt.Sprintf("%d games by step %d", len(l), step)
		want, ok := canonSumOf(l)
		good[ok]++
		if !ok {
			wantNoCanonSum(t, name, l...)
			continue
		}
		wantCanonSum(t, name, want, l...)
		if sum, fine := impl.SumOfMany(l); fine {
			together++
			wantCanon(t, "of the sum of "+name, sum, want)
		}
	}
	if good[true] < 100 || good[false] < 100 || together < 50 {
		t.Error("too few lists with a canonical sum or without", good, together)
	}
}

func TestP6SumsOfEqualGames(t *testing.T) {
	rows := equalGames(t)
	for i, row := range rows {
		for k, other := range rows {
			want, ok := impl.CanonSum([]impl.Form{row[0], other[0]})
			for m, f := range row {
				for n, g := range other {
					wantCanonSum(t, fmt.Sprintf("equal games %d (%d), %d (%d), %v", i, m, k, n, ok), want, f, g)
				}
			}
		}
	}
}

func wantNothingOfCanon(t *testing.T, name string, bad impl.Form) {
	t.Helper()
	left, right, ok := impl.DominatedIn(bad)
	wantNoSides(t, "DominatedIn "+name, left, right, ok)
	left, right, ok = impl.ReversibleIn(bad)
	wantNoSides(t, "ReversibleIn "+name, left, right, ok)
	f, ok := impl.DropForm(bad)
	wantNoForm(t, "DropForm of "+name, f, ok)
	f, ok = impl.BypassForm(bad)
	wantNoForm(t, "BypassForm of "+name, f, ok)
	is, ok := impl.IsCanon(bad)
	wantNoBool(t, "IsCanon "+name, is, ok)
	wantNoCanon(t, name, bad)
	for _, good := range []impl.Form{zeroGame(), chainOf(2), nimber(1), chainOf(mostNodes), bad} {
		for _, l := range [][]impl.Form{{bad}, {bad, good}, {good, bad}, {good, bad, zeroGame()}, {zeroGame(), good, bad}, {bad, zeroGame(), bad}} {
			wantNoCanonSum(t, name, l...)
		}
	}
}

func TestP6InvalidForms(t *testing.T) {
	for name, bad := range invalidForms() {
		wantNothingOfCanon(t, name, bad)
	}
}

func TestP6InvalidElements(t *testing.T) {
	for i := range mostSummed {
		for name, bad := range invalidForms() {
			l := slices.Repeat([]impl.Form{nimber(1)}, mostSummed)
			l[i] = bad
			wantNoCanonSum(t, fmt.Sprintf("12 with %s at %d", name, i), l...)
			wantNoCanonSum(t, fmt.Sprintf("some with %s at the end", name), l[:i+1]...)
		}
	}
}

func TestP6NilAndEmpty(t *testing.T) {
	for _, zero := range []impl.Form{formOf(node(nil, nil)), formOf(node(ints(), ints())), formOf(node(nil, ints()))} {
		wantCanonical(t, "0", zero)
		one := formOf(zero.Nodes[0], node(ints(0), ints()))
		wantCanonical(t, "1", one)
		wantCanonSum(t, "0, 1, 1", chainOf(3), zero, one, one)
		f := formOf(zero.Nodes[0], node(ints(0), ints(0)), node(ints(0, 1), ints()))
		left, right, ok := impl.ReversibleIn(f)
		wantSides(t, "ReversibleIn {0,*|}", left, right, ok, ints(1), nil)
		g, ok := impl.BypassForm(f)
		wantForm(t, "BypassForm of {0,*|}", g, ok, one)
		wantCanon(t, "{0,*|}", f, one)
		f = formOf(zero.Nodes[0], node(ints(0), nil), node(ints(0, 1), ints()))
		left, right, ok = impl.DominatedIn(f)
		wantSides(t, "DominatedIn {0,1|}", left, right, ok, ints(0), nil)
		g, ok = impl.DropForm(f)
		wantForm(t, "DropForm of {0,1|}", g, ok, chainOf(3))
	}
}

// resultsOfCanon has what each function of the chapter returns for f, and for f with * where there are lists.
func resultsOfCanon(f impl.Form, star impl.Form) (map[string]impl.Form, map[string][]int) {
	forms, places := map[string]impl.Form{}, map[string][]int{}
	places["DominatedIn of Left"], places["DominatedIn of Right"], _ = impl.DominatedIn(f)
	places["ReversibleIn of Left"], places["ReversibleIn of Right"], _ = impl.ReversibleIn(f)
	forms["DropForm"], _ = impl.DropForm(f)
	forms["BypassForm"], _ = impl.BypassForm(f)
	forms["CanonOf"], _ = impl.CanonOf(f)
	forms["CanonSum of one"], _ = impl.CanonSum([]impl.Form{f})
	forms["CanonSum"], _ = impl.CanonSum([]impl.Form{f, star})
	forms["CanonSum in reverse"], _ = impl.CanonSum([]impl.Form{star, f})
	forms["CanonSum of none"], _ = impl.CanonSum(nil)
	return forms, places
}

func wantResultsOfCanon(t *testing.T, name string, forms map[string]impl.Form, places map[string][]int, f impl.Form) {
	t.Helper()
	plainForms, plainPlaces := resultsOfCanon(copied(f), nimber(1))
	for function, want := range plainForms {
		if !sameNodes(forms[function], want) {
			t.Errorf("%s of %s = %v, want %v", function, name, forms[function], want)
		}
	}
	for function, want := range plainPlaces {
		if !slices.Equal(places[function], want) {
			t.Errorf("%s of %s = %v, want %v", function, name, places[function], want)
		}
	}
}

func TestP30CanonModifiesNoArgument(t *testing.T) {
	for i, want := range append(append(plainForms(plainDay2()), sample()...), crowded(t, 50)...) {
		f, star := withSpare(want), withSpare(nimber(1))
		forms, places := resultsOfCanon(f, star)
		wantResultsOfCanon(t, fmt.Sprint("game ", i, " with spare elements"), forms, places, want)
		is, ok := impl.IsCanon(f)
		wantBool(t, fmt.Sprint("IsCanon of game ", i), is, ok, sameNodes(canonOf(t, want), want))
		l := []impl.Form{f, star, f, {}, chainOf(mostNodes)}
		sum, _ := impl.CanonSum(l[:2])
		wantForm(t, "CanonSum of a part of a list", sum, true, forms["CanonSum"])
		wantSpare(t, "a function of canonical forms", f, want)
		wantSpare(t, "a function of canonical forms", star, nimber(1))
		if len(l[3].Nodes) != 0 || !sameNodes(l[4], chainOf(mostNodes)) {
			t.Error("CanonSum wrote behind the end of its list")
		}
	}
}

func TestP30CanonSharesNoMemory(t *testing.T) {
	for i, want := range append(append(plainForms(plainDay2()), sample()...), crowded(t, 50)...) {
		f, star := copied(want), nimber(1)
		forms, places := resultsOfCanon(f, star)
		spoil(f)
		spoil(star)
		wantResultsOfCanon(t, fmt.Sprint("game ", i, " after it was changed"), forms, places, want)
		f, star = copied(want), nimber(1)
		forms, places = resultsOfCanon(f, star)
		for _, result := range forms {
			spoil(result)
		}
		for _, result := range places {
			result = result[:cap(result)]
			for k := range result {
				result[k] = -77
			}
		}
		wantForm(t, "the game after the results were changed", f, true, want)
		wantForm(t, "* after the results were changed", star, true, nimber(1))
	}
}

func TestP30ListsOfOneCanonShareNoMemory(t *testing.T) {
	for i, f := range append(append(plainForms(plainDay2()), sample()...), crowded(t, 50)...) {
		forms, places := resultsOfCanon(f, nimber(1))
		for _, list := range places {
			_ = append(append(list, -1), -1)
		}
		wantResultsOfCanon(t, fmt.Sprint("game ", i, " after places were added"), forms, places, f)
		for name, result := range forms {
			wantOwnLists(t, fmt.Sprintf("%s of game %d", name, i), result)
		}
	}
}

func TestP30CanonReturnsForAll(t *testing.T) {
	forms := strangeForms()
	for i, f := range forms {
		func() {
			defer noPanic(t, fmt.Sprint(f))
			g := forms[(i*7+3)%len(forms)]
			resultsOfCanon(f, g)
			impl.IsCanon(f)
			impl.CanonSum([]impl.Form{g, f, f})
		}()
	}
}

func TestP30LargestCanons(t *testing.T) {
	forms := []impl.Form{towerOf(mostNodes), ladderOf(mostNodes), chainOf(mostNodes), minusChain(mostNodes)}
	for seed := range 20 {
		forms = append(forms, tangleOf(mostNodes, mostOptions+1, seed+1))
	}
	inTime(t, "the canonical forms of the largest games", func() {
		for _, f := range forms {
			resultsOfCanon(f, nimber(mostOptions))
			impl.IsCanon(f)
			impl.CanonSum(slices.Repeat([]impl.Form{f}, mostSummed))
		}
		impl.CanonSum(slices.Repeat([]impl.Form{nimber(2), nimber(mostOptions), towerOf(mostNodes)}, mostSummed/3))
	})
}

func TestP30CanonKeepsNoState(t *testing.T) {
	for range 2 {
		wantCanon(t, "{0,1|}", short(t, "{0,1|}"), short(t, "2"))
		wantNothingOfCanon(t, "no game", impl.Form{})
		wantCanonSum(t, "*, *, *", nimber(1), nimber(1), nimber(1), nimber(1))
		wantCanonSum(t, "nothing", zeroGame())
		wantNoCanonSum(t, "too many pairs", chainOf(41), chainOf(40))
		wantSteps(t, "{*|*}", short(t, "{*|*}"))
		wantCanonical(t, "up", short(t, "^"))
		wantCanonSum(t, "1, *", short(t, "{1|1}"), chainOf(2), nimber(1))
	}
}
