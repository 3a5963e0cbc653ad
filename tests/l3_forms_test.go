package tests

import (
	"cmp"
	"fmt"
	"math"
	"slices"
	"strings"
	"testing"

	"loop.example/g00868/impl"
)

const (
	mostNodes   = 120
	mostOptions = 24
	longestText = 4000
)

func ints(l ...int) []int {
	return l
}

func node(left []int, right []int) impl.Node {
	return impl.Node{Left: left, Right: right}
}

func formOf(nodes ...impl.Node) impl.Form {
	return impl.Form{Nodes: nodes}
}

func zeroGame() impl.Form {
	return formOf(node(nil, nil))
}

// chainOf is the game of the integer nodes-1.
func chainOf(nodes int) impl.Form {
	f := zeroGame()
	for i := 1; i < nodes; i++ {
		f.Nodes = append(f.Nodes, node(ints(i-1), nil))
	}
	return f
}

func chains(from int, to int) []impl.Form {
	var l []impl.Form
	for nodes := from; nodes <= to; nodes++ {
		l = append(l, chainOf(nodes))
	}
	return l
}

func made(t *testing.T, left []impl.Form, right []impl.Form) impl.Form {
	t.Helper()
	f, ok := impl.MakeForm(left, right)
	if !ok {
		t.Fatalf("MakeForm of %d and %d options fails", len(left), len(right))
	}
	return f
}

func read(t *testing.T, s string) impl.Form {
	t.Helper()
	f, ok := impl.ReadForm(s)
	if !ok {
		t.Fatalf("ReadForm(%.60q) fails", s)
	}
	return f
}

func reads(t *testing.T, l ...string) []impl.Form {
	t.Helper()
	var all []impl.Form
	for _, s := range l {
		all = append(all, read(t, s))
	}
	return all
}

// sameNodes does not use SameForm, so that a wrong SameForm shows.
func sameNodes(a impl.Form, b impl.Form) bool {
	return slices.EqualFunc(a.Nodes, b.Nodes, func(m, n impl.Node) bool {
		return slices.Equal(m.Left, n.Left) && slices.Equal(m.Right, n.Right)
	})
}

func wantForm(t *testing.T, name string, got impl.Form, ok bool, want impl.Form) {
	t.Helper()
	if !ok || !sameNodes(got, want) {
		t.Errorf("%s = %v, %v, want %v, true", name, got, ok, want)
	}
}

func wantNoForm(t *testing.T, name string, got impl.Form, ok bool) {
	t.Helper()
	if len(got.Nodes) != 0 || ok {
		t.Errorf("%s = %d nodes, %v, want the zero Form and false", name, len(got.Nodes), ok)
	}
}

func wantForms(t *testing.T, name string, got []impl.Form, want ...impl.Form) {
	t.Helper()
	if !slices.EqualFunc(got, want, sameNodes) {
		t.Errorf("%s = %v, want %v", name, got, want)
	}
}

func wantNothingOfForm(t *testing.T, name string, bad impl.Form) {
	t.Helper()
	if impl.GoodForm(bad) {
		t.Errorf("GoodForm(%s) is true", name)
	}
	good := zeroGame()
	for i, lists := range [][2][]impl.Form{{{bad}, nil}, {nil, {bad}}, {{good, bad}, {good}}, {{bad, good}, nil}, {{good}, {good, bad}}, {nil, {bad, good}}, {{bad}, {bad}}} {
		f, ok := impl.MakeForm(lists[0], lists[1])
		wantNoForm(t, fmt.Sprintf("MakeForm %d with %s", i, name), f, ok)
	}
	if left, right, ok := impl.OptionsOf(bad); len(left) != 0 || len(right) != 0 || ok {
		t.Errorf("OptionsOf(%s) = %v, %v, %v", name, left, right, ok)
	}
	for _, pair := range [][2]impl.Form{{bad, good}, {good, bad}, {bad, bad}, {bad, chainOf(3)}, {chainOf(3), bad}} {
		if less, ok := impl.LessForm(pair[0], pair[1]); less || ok {
			t.Errorf("LessForm with %s = %v, %v, want false, false", name, less, ok)
		}
	}
	n, ok := impl.BornOf(bad)
	wantNoInt(t, "BornOf("+name+")", n, ok)
	for _, i := range append(extremeInts(), -1, 0, 1, len(bad.Nodes)-1, len(bad.Nodes)) {
		f, ok := impl.PartAt(bad, i)
		wantNoForm(t, fmt.Sprintf("PartAt(%s, %d)", name, i), f, ok)
	}
	s, ok := impl.FormText(bad)
	wantNoText(t, "FormText("+name+")", s, ok)
}

func invalidForms() map[string]impl.Form {
	zero, one, minus := node(nil, nil), node(ints(0), nil), node(nil, ints(0))
	star := node(ints(0), ints(0))
	all := map[string]impl.Form{
		"no nodes":                               {},
		"no nodes, not nil":                      {Nodes: []impl.Node{}},
		"0 twice":                                formOf(zero, zero),
		"0 twice below a game":                   formOf(zero, zero, node(ints(0, 1), nil)),
		"1 twice":                                formOf(zero, one, one),
		"1 twice below a game":                   formOf(zero, one, one, node(ints(1, 2), nil)),
		"* twice below a game":                   formOf(zero, star, star, node(ints(1), ints(2))),
		"1 and 0 not reached":                    formOf(zero, one, minus),
		"-1 not reached":                         formOf(zero, minus, one),
		"1 not reached":                          formOf(zero, minus, one, node(ints(1), ints(0))),
		"a game of day 2 not reached":            formOf(zero, minus, one, node(ints(1), nil), node(ints(2), nil)),
		"1 before -1":                            formOf(zero, one, minus, node(ints(1), ints(2))),
		"* before 1":                             formOf(zero, star, one, node(ints(1), ints(2))),
		"* before -1":                            formOf(zero, star, minus, node(ints(1), ints(2))),
		"1 before 0":                             formOf(one, zero),
		"0 last":                                 formOf(zero, one, zero),
		"2 before -1":                            formOf(zero, one, node(ints(1), nil), minus, node(ints(2, 3), nil)),
		"longer left list before its prefix":     formOf(zero, one, node(ints(0, 1), nil), node(nil, ints(0, 1)), node(ints(2), ints(3))),
		"right lists in descending order":        formOf(zero, one, node(ints(1), ints(1)), node(ints(1), ints(0)), node(ints(2), ints(3))),
		"longer right list before its prefix":    formOf(zero, one, node(ints(1), ints(0, 1)), node(ints(1), ints(0)), node(ints(2), ints(3))),
		"left lists in descending order":         formOf(zero, minus, one, node(ints(2), nil), node(ints(1), nil), node(ints(3, 4), nil)),
		"right list decides against the left":    formOf(zero, minus, one, node(ints(2), nil), node(ints(1), ints(2)), node(ints(3, 4), nil)),
		"an option of itself":                    formOf(node(ints(0), nil)),
		"a right option of itself":               formOf(node(nil, ints(0))),
		"1 with itself as an option":             formOf(zero, node(ints(0, 1), nil)),
		"1 with itself as a right option":        formOf(zero, node(ints(0), ints(1))),
		"a later option":                         formOf(zero, node(ints(0, 2), nil), node(ints(0, 1), nil)),
		"a later right option":                   formOf(zero, node(nil, ints(0, 2)), node(ints(1), nil)),
		"options in a circle":                    formOf(node(ints(1), nil), node(ints(0), nil)),
		"an option beyond the nodes":             formOf(zero, node(ints(0, 2), nil)),
		"a right option beyond the nodes":        formOf(zero, node(ints(0), ints(2))),
		"a negative option":                      formOf(zero, node(ints(-1, 0), nil)),
		"a negative right option":                formOf(zero, node(ints(0), ints(-1))),
		"a negative option of the first":         formOf(node(ints(-1), nil)),
		"a negative right option behind another": formOf(zero, node(nil, ints(0, -1))),
		"a repeated option":                      formOf(zero, node(ints(0, 0), nil)),
		"a repeated right option":                formOf(zero, node(nil, ints(0, 0))),
		"a repeated option at the end":           formOf(zero, one, node(ints(0, 1, 1), nil)),
		"options in descending order":            formOf(zero, one, node(ints(1, 0), nil)),
		"right options in descending order":      formOf(zero, one, node(nil, ints(1, 0))),
		"the last two options swapped":           formOf(zero, minus, one, node(ints(0, 2, 1), nil)),
		"a bad node below a good one":            formOf(zero, node(ints(0, 0), nil), node(ints(1), nil)),
		"one node too many":                      chainOf(mostNodes + 1),
		"many nodes":                             chainOf(5000),
		"many equal nodes":                       {Nodes: make([]impl.Node, 100000)},
		"a long list of options":                 formOf(zero, node(make([]int, 100000), nil)),
		"a long list of right options":           formOf(zero, node(nil, make([]int, 100000))),
		"one left option too many":               withAllOptions(mostOptions+1, true, false),
		"one right option too many":              withAllOptions(mostOptions+1, false, true),
		"one option too many on each side":       withAllOptions(mostOptions+1, true, true),
		"one option too many below the game":     {Nodes: append(withAllOptions(mostOptions+1, true, false).Nodes, node(ints(mostOptions+1), nil))},
	}
	for _, n := range extremeInts() {
		all[fmt.Sprint("left option ", n)] = formOf(zero, node(ints(n), nil))
		all[fmt.Sprint("right option ", n)] = formOf(zero, node(nil, ints(n)))
		all[fmt.Sprint("options 0 and ", n)] = formOf(zero, node(ints(0, n), ints(n, 0)))
		all[fmt.Sprint("only option ", n)] = formOf(node(ints(n), ints(n)))
	}
	return all
}

func withAllOptions(options int, left bool, right bool) impl.Form {
	f := chainOf(options)
	var top impl.Node
	for i := range options {
		if left {
			top.Left = append(top.Left, i)
		}
		if right {
			top.Right = append(top.Right, i)
		}
	}
	f.Nodes = append(f.Nodes, top)
	return f
}

// towerOf has the nodes before each node as options of both players, as many as there may be.
func towerOf(nodes int) impl.Form {
	f := zeroGame()
	for i := 1; i < nodes; i++ {
		var options []int
		for k := max(0, i-mostOptions); k < i; k++ {
			options = append(options, k)
		}
		f.Nodes = append(f.Nodes, node(options, options))
	}
	return f
}

func ladderOf(nodes int) impl.Form {
	f := zeroGame()
	for i := 1; i < nodes; i++ {
		f.Nodes = append(f.Nodes, node(ints(i-1), ints(i-1)))
	}
	return f
}

func strangeForms() []impl.Form {
	values := append(extremeInts(), -1, 0, 1, 2)
	forms := []impl.Form{{}, zeroGame(), chainOf(2), chainOf(mostNodes), chainOf(mostNodes + 1), {Nodes: make([]impl.Node, 200)}}
	for _, a := range values {
		for _, b := range values {
			forms = append(forms, formOf(node(ints(a), ints(b))), formOf(node(nil, nil), node(ints(a, b), nil)), formOf(node(nil, nil), node(nil, ints(0)), node(ints(a), ints(b, a))))
		}
	}
	return forms
}

// A plainGame is compared by the document's words, game by game and without indices.
type plainGame struct {
	left  []*plainGame
	right []*plainGame
	born  int
}

func plainOf(left []*plainGame, right []*plainGame) *plainGame {
	g := &plainGame{left: plainSorted(left), right: plainSorted(right)}
	for _, option := range append(slices.Clone(g.left), g.right...) {
		g.born = max(g.born, option.born+1)
	}
	return g
}

func plainSorted(l []*plainGame) []*plainGame {
	sorted := slices.SortedFunc(slices.Values(l), plainCompare)
	return slices.CompactFunc(sorted, func(a, b *plainGame) bool { return plainCompare(a, b) == 0 })
}

func plainCompare(a *plainGame, b *plainGame) int {
	if a == b {
		return 0
	}
	return cmp.Or(cmp.Compare(a.born, b.born), slices.CompareFunc(a.left, b.left, plainCompare), slices.CompareFunc(a.right, b.right, plainCompare))
}

func plainParts(g *plainGame) []*plainGame {
	parts := []*plainGame{g}
	for _, option := range append(slices.Clone(g.left), g.right...) {
		parts = append(parts, plainParts(option)...)
	}
	return plainSorted(parts)
}

func plainForm(g *plainGame) impl.Form {
	parts := plainParts(g)
	places := func(l []*plainGame) []int {
		var all []int
		for _, option := range l {
			i, _ := slices.BinarySearchFunc(parts, option, plainCompare)
			all = append(all, i)
		}
		return all
	}
	var f impl.Form
	for _, part := range parts {
		f.Nodes = append(f.Nodes, node(places(part.left), places(part.right)))
	}
	return f
}

func plainFormText(g *plainGame) string {
	texts := func(l []*plainGame) string {
		var all []string
		for _, option := range l {
			all = append(all, plainFormText(option))
		}
		return strings.Join(all, ",")
	}
	return "{" + texts(g.left) + "|" + texts(g.right) + "}"
}

func plainForms(l []*plainGame) []impl.Form {
	var all []impl.Form
	for _, g := range l {
		all = append(all, plainForm(g))
	}
	return all
}

func chosen(l []*plainGame, bits uint) []*plainGame {
	var some []*plainGame
	for i, g := range l {
		if bits>>i&1 != 0 {
			some = append(some, g)
		}
	}
	return some
}

// plainDay is ascending because plainSorted makes it so.
func plainDay(before []*plainGame) []*plainGame {
	var all []*plainGame
	for bits := range uint(1) << (2 * len(before)) {
		all = append(all, plainOf(chosen(before, bits), chosen(before, bits>>len(before))))
	}
	return plainSorted(all)
}

func plainDay2() []*plainGame {
	return plainDay(plainDay(plainDay(nil)))
}

// plainMixed takes its options by a fixed rule, as there are too many games of day 3 to take them all.
func plainMixed(count int) []*plainGame {
	var all []*plainGame
	older := plainDay2()
	step := 1
	for range count {
		var lists [2][]*plainGame
		for side := range lists {
			step = (step*16807 + side) % 2147483647
			for k := range step % 5 {
				lists[side] = append(lists[side], older[(step/7+k*k*k*37+k*11)%len(older)])
			}
		}
		all = append(all, plainOf(lists[0], lists[1]))
		if len(all)%10 == 0 {
			older = append(older, all[len(all)-1])
		}
	}
	return all
}

func checkPlain(t *testing.T, g *plainGame) {
	t.Helper()
	want, text := plainForm(g), plainFormText(g)
	f, ok := impl.MakeForm(plainForms(g.left), plainForms(g.right))
	wantForm(t, "MakeForm for "+text, f, ok, want)
	if !impl.GoodForm(want) {
		t.Errorf("GoodForm(%v) is false", want)
	}
	left, right, ok := impl.OptionsOf(want)
	if !ok {
		t.Errorf("OptionsOf(%s) fails", text)
	}
	wantForms(t, "left options of "+text, left, plainForms(g.left)...)
	wantForms(t, "right options of "+text, right, plainForms(g.right)...)
	slices.Reverse(left)
	slices.Reverse(right)
	f, ok = impl.MakeForm(append(left, left...), append(right, right...))
	wantForm(t, "MakeForm of the reversed options of "+text, f, ok, want)
	if s, ok := impl.FormText(want); !ok || s != text {
		t.Errorf("FormText(%v) = %q, %v, want %q, true", want, s, ok, text)
	}
	f, ok = impl.ReadForm(text)
	wantForm(t, "ReadForm("+text+")", f, ok, want)
	if n, ok := impl.BornOf(want); !ok || n != g.born {
		t.Errorf("BornOf(%s) = %d, %v, want %d, true", text, n, ok, g.born)
	}
	for i, part := range plainParts(g) {
		f, ok := impl.PartAt(want, i)
		wantForm(t, fmt.Sprintf("PartAt(%s, %d)", text, i), f, ok, plainForm(part))
	}
}

func TestP3Limits(t *testing.T) {
	if impl.MaxNodes != mostNodes || impl.MaxOptions != mostOptions {
		t.Error("limits", impl.MaxNodes, impl.MaxOptions)
	}
}

func TestP3KnownGames(t *testing.T) {
	zero := node(nil, nil)
	known := []struct {
		text string
		born int
		form impl.Form
	}{
		{"{|}", 0, formOf(zero)},
		{"{|{|}}", 1, formOf(zero, node(nil, ints(0)))},
		{"{{|}|}", 1, formOf(zero, node(ints(0), nil))},
		{"{{|}|{|}}", 1, formOf(zero, node(ints(0), ints(0)))},
		{"{{|}|{{|}|{|}}}", 2, formOf(zero, node(ints(0), ints(0)), node(ints(0), ints(1)))},
		{"{{|},{{|}|{|}}|{|}}", 2, formOf(zero, node(ints(0), ints(0)), node(ints(0, 1), ints(0)))},
		{"{{{|}|}|{|{|}}}", 2, formOf(zero, node(nil, ints(0)), node(ints(0), nil), node(ints(2), ints(1)))},
		{"{{|}|{{|}|}}", 2, formOf(zero, node(ints(0), nil), node(ints(0), ints(1)))},
		{"{{|}|{{|}|{|{|}}}}", 3, formOf(zero, node(nil, ints(0)), node(ints(0), ints(1)), node(ints(0), ints(2)))},
		{"{{|},{{{|}|}|}|}", 3, formOf(zero, node(ints(0), nil), node(ints(1), nil), node(ints(0, 2), nil))},
	}
	for _, c := range known {
		if !impl.GoodForm(c.form) {
			t.Errorf("GoodForm(%v) is false", c.form)
		}
		if s, ok := impl.FormText(c.form); !ok || s != c.text {
			t.Errorf("FormText(%v) = %q, %v, want %q, true", c.form, s, ok, c.text)
		}
		f, ok := impl.ReadForm(c.text)
		wantForm(t, "ReadForm("+c.text+")", f, ok, c.form)
		if n, ok := impl.BornOf(c.form); !ok || n != c.born {
			t.Errorf("BornOf(%s) = %d, %v, want %d, true", c.text, n, ok, c.born)
		}
		left, right, ok := impl.OptionsOf(c.form)
		f, fine := impl.MakeForm(left, right)
		wantForm(t, "MakeForm of the options of "+c.text, f, ok && fine, c.form)
	}
}

func TestP3EveryGameOfDay2HasOneForm(t *testing.T) {
	games := plainDay2()
	if len(games) != 256 {
		t.Fatal(len(games), "games")
	}
	texts := map[string]bool{}
	for _, g := range games {
		checkPlain(t, g)
		s, _ := impl.FormText(plainForm(g))
		texts[s] = true
	}
	if len(texts) != len(games) {
		t.Errorf("%d games have %d texts", len(games), len(texts))
	}
}

func TestP3MixedGamesHaveOneForm(t *testing.T) {
	for _, g := range plainMixed(400) {
		if f := plainForm(g); len(f.Nodes) <= mostNodes && len(plainFormText(g)) <= longestText {
			checkPlain(t, g)
		}
	}
}

// Every list of nodes that is valid is the form of its last game, so that no game has a second one.
func TestP3ValidFormsAreThoseOfTheirGames(t *testing.T) {
	lists := [][]int{nil, {0}, {1}, {2}, {0, 1}, {0, 2}, {1, 2}, {0, 1, 2}, {1, 0}, {0, 0}, {2, 1}, {-1}, {3}}
	var nodes []impl.Node
	for _, left := range lists {
		for _, right := range lists {
			nodes = append(nodes, node(left, right))
		}
	}
	forms := map[string]impl.Form{}
	for _, second := range nodes {
		for _, third := range nodes {
			for _, f := range []impl.Form{formOf(second), formOf(nodes[0], second), formOf(nodes[0], second, third)} {
				if impl.GoodForm(f) != sameNodes(f, plainAgain(f)) {
					t.Fatalf("GoodForm(%v) = %v", f, impl.GoodForm(f))
				}
				s, ok := impl.FormText(f)
				if other, twice := forms[s]; ok && twice && !sameNodes(f, other) {
					t.Errorf("%v and %v have the text %q", f, other, s)
				}
				forms[s] = f
			}
		}
	}
}

// plainAgain returns the zero Form where f has no game.
func plainAgain(f impl.Form) impl.Form {
	var games []*plainGame
	for i, n := range f.Nodes {
		var lists [2][]*plainGame
		for side, options := range [][]int{n.Left, n.Right} {
			for _, option := range options {
				if option < 0 || option >= i {
					return impl.Form{}
				}
				lists[side] = append(lists[side], games[option])
			}
		}
		games = append(games, plainOf(lists[0], lists[1]))
	}
	return plainForm(games[len(games)-1])
}

func TestP3InvalidForms(t *testing.T) {
	for name, bad := range invalidForms() {
		wantNothingOfForm(t, name, bad)
	}
}

func TestP3IdenticalOptionsCountOnce(t *testing.T) {
	zero := zeroGame()
	star := formOf(node(nil, nil), node(ints(0), ints(0)))
	var hundred []impl.Form
	for range 100 {
		hundred = append(hundred, zero)
	}
	for _, l := range [][]impl.Form{{zero}, {zero, zero}, {zero, zero, zero}, hundred[:25], hundred} {
		f, ok := impl.MakeForm(l, l)
		wantForm(t, fmt.Sprintf("MakeForm of %d times 0", len(l)), f, ok, star)
		f, ok = impl.MakeForm(l, nil)
		wantForm(t, fmt.Sprintf("MakeForm of %d times 0 on the left", len(l)), f, ok, chainOf(2))
		f, ok = impl.MakeForm(nil, l)
		wantForm(t, fmt.Sprintf("MakeForm of %d times 0 on the right", len(l)), f, ok, formOf(node(nil, nil), node(nil, ints(0))))
	}
	f, ok := impl.MakeForm([]impl.Form{star, zero, star, zero, star}, []impl.Form{zero, star, zero})
	wantForm(t, "MakeForm of * and 0", f, ok, formOf(node(nil, nil), node(ints(0), ints(0)), node(ints(0, 1), ints(0, 1))))
}

func TestP3ListsOfManyOptions(t *testing.T) {
	many := chains(1, mostOptions)
	repeated := append(append(slices.Clone(many), many...), many...)
	repeated = append(append(repeated, many...), many[:4]...)
	for _, l := range [][]impl.Form{many, append(slices.Clone(many), many[7]), repeated} {
		f, ok := impl.MakeForm(l, nil)
		wantForm(t, fmt.Sprint("left list of ", len(l)), f, ok, withAllOptions(mostOptions, true, false))
		f, ok = impl.MakeForm(nil, l)
		wantForm(t, fmt.Sprint("right list of ", len(l)), f, ok, withAllOptions(mostOptions, false, true))
		f, ok = impl.MakeForm(l, l)
		wantForm(t, fmt.Sprint("two lists of ", len(l)), f, ok, withAllOptions(mostOptions, true, true))
	}
	tooMany := chains(1, mostOptions+1)
	tooLong := append(slices.Clone(repeated), zeroGame())
	if len(repeated) != 100 || len(tooLong) != 101 {
		t.Fatal(len(repeated), len(tooLong))
	}
	for _, l := range [][]impl.Form{tooMany, append(slices.Clone(tooMany), tooMany...), append(slices.Clone(repeated[:99]), chainOf(30)), tooLong, make([]impl.Form, 101), make([]impl.Form, 100000), slices.Repeat([]impl.Form{zeroGame()}, 101)} {
		f, ok := impl.MakeForm(l, nil)
		wantNoForm(t, fmt.Sprint("left list of ", len(l)), f, ok)
		f, ok = impl.MakeForm(nil, l)
		wantNoForm(t, fmt.Sprint("right list of ", len(l)), f, ok)
		f, ok = impl.MakeForm(l, l)
		wantNoForm(t, fmt.Sprint("two lists of ", len(l)), f, ok)
	}
	for _, f := range []impl.Form{withAllOptions(mostOptions, true, false), withAllOptions(mostOptions, false, true), withAllOptions(mostOptions, true, true)} {
		if !impl.GoodForm(f) {
			t.Error("GoodForm is false for", mostOptions, "options")
		}
		left, right, ok := impl.OptionsOf(f)
		again, fine := impl.MakeForm(left, right)
		wantForm(t, "MakeForm of many options", again, ok && fine, f)
	}
}

func TestP3OptionsInAnyOrder(t *testing.T) {
	options := reads(t, "{|}", "{|{|}}", "{{|}|}", "{{|}|{|}}", "{{|}|{{|}|}}")
	want := formOf(node(nil, nil), node(nil, ints(0)), node(ints(0), nil), node(ints(0), ints(0)), node(ints(0), ints(2)), node(ints(0, 1, 2, 3, 4), ints(0, 1, 2, 3, 4)))
	var orders func(rest []impl.Form, taken []impl.Form)
	orders = func(rest []impl.Form, taken []impl.Form) {
		if len(rest) == 0 {
			f, ok := impl.MakeForm(taken, options)
			wantForm(t, "MakeForm in another order", f, ok, want)
			f, ok = impl.MakeForm(options, taken)
			wantForm(t, "MakeForm in another order on the right", f, ok, want)
		}
		for i, f := range rest {
			orders(slices.Delete(slices.Clone(rest), i, i+1), append(slices.Clone(taken), f))
		}
	}
	orders(options, nil)
}

func TestP3OptionsOf(t *testing.T) {
	zero, minus, one, star := zeroGame(), formOf(node(nil, nil), node(nil, ints(0))), chainOf(2), formOf(node(nil, nil), node(ints(0), ints(0)))
	f := made(t, []impl.Form{star, zero, one}, []impl.Form{one, minus})
	left, right, ok := impl.OptionsOf(f)
	if !ok {
		t.Error("OptionsOf fails")
	}
	wantForms(t, "left options", left, zero, one, star)
	wantForms(t, "right options", right, minus, one)
	left, right, ok = impl.OptionsOf(zero)
	if !ok || len(left) != 0 || len(right) != 0 {
		t.Error("options of 0", left, right, ok)
	}
	left, right, ok = impl.OptionsOf(minus)
	if !ok || len(left) != 0 {
		t.Error("options of -1", left, ok)
	}
	wantForms(t, "right options of -1", right, zero)
}

func TestP3MostNodes(t *testing.T) {
	longest := chainOf(mostNodes)
	if !impl.GoodForm(longest) || impl.GoodForm(chainOf(mostNodes+1)) {
		t.Error("GoodForm at the limit of nodes")
	}
	f, ok := impl.MakeForm([]impl.Form{chainOf(mostNodes - 1)}, nil)
	wantForm(t, "MakeForm of the longest game", f, ok, longest)
	left, right, ok := impl.OptionsOf(longest)
	if !ok || len(right) != 0 {
		t.Error("options of the longest game", right, ok)
	}
	wantForms(t, "options of the longest game", left, chainOf(mostNodes-1))
	if n, ok := impl.BornOf(longest); !ok || n != mostNodes-1 {
		t.Error("birthday of the longest game", n, ok)
	}
	for i := range mostNodes {
		f, ok := impl.PartAt(longest, i)
		wantForm(t, fmt.Sprint("part of the longest game at ", i), f, ok, chainOf(i+1))
	}
	s, ok := impl.FormText(longest)
	if !ok || s != strings.Repeat("{", mostNodes)+strings.Repeat("|}", mostNodes) {
		t.Error("text of the longest game", s, ok)
	}
	wantForm(t, "reading the longest game", read(t, s), true, longest)
	f, ok = impl.ReadForm("{" + s + "|}")
	wantNoForm(t, "reading a game that is too long", f, ok)
	f, ok = impl.MakeForm([]impl.Form{longest}, nil)
	wantNoForm(t, "MakeForm of a game that is too long", f, ok)
	f, ok = impl.MakeForm([]impl.Form{zeroGame()}, []impl.Form{longest})
	wantNoForm(t, "MakeForm of a game that is too long on the right", f, ok)
}

// The games 1..a and -1..-b share only the game 0.
func TestP3MostNodesOfTwoOptions(t *testing.T) {
	for _, nodes := range []int{2, 20, 60, 100, 118, 119} {
		a := chainOf(nodes)
		for _, more := range []int{mostNodes - 1 - nodes, mostNodes - nodes} {
			b := zeroGame()
			for i := range more {
				b.Nodes = append(b.Nodes, node(nil, ints(i)))
			}
			f, ok := impl.MakeForm([]impl.Form{a}, []impl.Form{b, a})
			if nodes+more+1 > mostNodes {
				wantNoForm(t, fmt.Sprint("MakeForm with parts of nodes ", nodes, more), f, ok)
			} else if !ok || len(f.Nodes) != mostNodes || !impl.GoodForm(f) {
				t.Error("MakeForm with parts of nodes", nodes, more, ok, len(f.Nodes))
			}
		}
	}
}

func TestP3Parts(t *testing.T) {
	f := formOf(node(nil, nil), node(nil, ints(0)), node(ints(0), nil), node(ints(0), ints(2)), node(ints(2), ints(1)), node(ints(4), ints(3)))
	want := []impl.Form{
		zeroGame(), formOf(node(nil, nil), node(nil, ints(0))), chainOf(2),
		formOf(node(nil, nil), node(ints(0), nil), node(ints(0), ints(1))), formOf(node(nil, nil), node(nil, ints(0)), node(ints(0), nil), node(ints(2), ints(1))), f,
	}
	for i, part := range want {
		got, ok := impl.PartAt(f, i)
		wantForm(t, fmt.Sprint("part at ", i), got, ok, part)
	}
	for _, i := range append(extremeInts(), -1, -2, 6, 7, 120) {
		got, ok := impl.PartAt(f, i)
		wantNoForm(t, fmt.Sprint("part at ", i), got, ok)
		got, ok = impl.PartAt(zeroGame(), i)
		wantNoForm(t, fmt.Sprint("part of 0 at ", i), got, ok)
	}
	got, ok := impl.PartAt(zeroGame(), 0)
	wantForm(t, "part of 0 at 0", got, ok, zeroGame())
	got, ok = impl.PartAt(zeroGame(), 1)
	wantNoForm(t, "part of 0 at 1", got, ok)
}

func wantAscending(t *testing.T, forms []impl.Form) {
	t.Helper()
	for i := range forms {
		for k := range forms {
			if less, ok := impl.LessForm(forms[i], forms[k]); !ok || less != (i < k) {
				t.Errorf("LessForm of games %d and %d = %v, %v, want %v, true", i, k, less, ok, i < k)
			}
		}
	}
}

func TestP3Order(t *testing.T) {
	wantAscending(t, reads(t,
		"{|}", "{|{|}}", "{{|}|}", "{{|}|{|}}",
		// Day 2: no left options, by their right options; the proper prefix of a list is first.
		"{|{|},{|{|}}}", "{|{|},{|{|}},{{|}|}}", "{|{|},{{|}|}}", "{|{|},{{|}|{|}}}", "{|{|{|}}}", "{|{{|}|}}", "{|{{|}|},{{|}|{|}}}", "{|{{|}|{|}}}",
		// The left option 0, then 0 and others, whatever the right options are.
		"{{|}|{|},{|{|}}}", "{{|}|{|{|}}}", "{{|}|{{|}|{|}}}", "{{|},{|{|}}|}", "{{|},{|{|}}|{|}}", "{{|},{|{|}},{{|}|}|}", "{{|},{{|}|}|{|{|}}}",
		"{{|{|}}|}", "{{|{|}}|{|}}", "{{{|}|}|}", "{{{|}|}|{{|}|{|}}}", "{{{|}|{|}}|}",
		// Day 3 comes behind all of day 2.
		"{|{|{|{|}}}}", "{{|}|{|{|{|}}}}", "{{{{|}|}|}|}",
	))
}

func TestP3OrderOfDay2(t *testing.T) {
	wantAscending(t, plainForms(plainDay2()))
}

func TestP3OrderOfMixedGames(t *testing.T) {
	var forms []impl.Form
	for _, g := range plainSorted(plainMixed(150)) {
		if f := plainForm(g); len(f.Nodes) <= mostNodes {
			forms = append(forms, f)
		}
	}
	wantAscending(t, append(forms, chainOf(40), chainOf(mostNodes-1), chainOf(mostNodes)))
}

func TestP3SameForm(t *testing.T) {
	forms := []impl.Form{
		{}, zeroGame(), chainOf(2), chainOf(3), formOf(node(nil, nil), node(nil, ints(0))), formOf(node(nil, nil), node(ints(0), ints(0))),
		formOf(node(nil, nil), node(nil, nil)), formOf(node(ints(-1), nil)), formOf(node(nil, ints(-1))), formOf(node(ints(-1), ints(-1))), formOf(node(ints(-1, 5), nil)), formOf(node(ints(5, -1), nil)), formOf(node(ints(5, 5), nil)),
		formOf(node(ints(math.MaxInt), ints(math.MinInt))), formOf(node(ints(math.MinInt), ints(math.MaxInt))), chainOf(mostNodes), chainOf(mostNodes + 1), withAllOptions(mostOptions+1, true, true), withAllOptions(mostOptions+1, true, false),
		formOf(node(ints(0), nil), node(nil, nil)), {Nodes: make([]impl.Node, 100000)},
	}
	for i, a := range forms {
		for k, b := range forms {
			if impl.SameForm(a, copied(b)) != (i == k) {
				t.Errorf("SameForm of forms %d and %d is %v", i, k, i != k)
			}
		}
	}
	empty := formOf(node(ints(), ints()), node(ints(0), ints()))
	if !impl.SameForm(empty, chainOf(2)) || !impl.SameForm(chainOf(2), empty) || !impl.SameForm(impl.Form{}, impl.Form{Nodes: []impl.Node{}}) || !impl.SameForm(impl.Form{Nodes: []impl.Node{}}, impl.Form{}) {
		t.Error("SameForm tells nil from empty")
	}
}

func TestP3NilAndEmpty(t *testing.T) {
	for _, none := range [][]impl.Form{nil, {}} {
		f, ok := impl.MakeForm(none, none)
		wantForm(t, "MakeForm without options", f, ok, zeroGame())
		f, ok = impl.MakeForm([]impl.Form{zeroGame()}, none)
		wantForm(t, "MakeForm without right options", f, ok, chainOf(2))
		f, ok = impl.MakeForm(none, []impl.Form{zeroGame()})
		wantForm(t, "MakeForm without left options", f, ok, formOf(node(nil, nil), node(nil, ints(0))))
	}
	zero, one := formOf(node(ints(), ints())), formOf(node(ints(), ints()), node(ints(0), ints()))
	if !impl.GoodForm(zero) || !impl.GoodForm(one) || !impl.GoodForm(formOf(node(ints(), nil), node(nil, ints(0)))) {
		t.Error("GoodForm is false for empty lists")
	}
	f, ok := impl.MakeForm([]impl.Form{one, chainOf(2)}, []impl.Form{zero, zeroGame()})
	wantForm(t, "MakeForm with empty lists", f, ok, formOf(node(nil, nil), node(ints(0), nil), node(ints(1), ints(0))))
	for _, pair := range [][2]impl.Form{{one, chainOf(2)}, {chainOf(2), one}, {zero, zeroGame()}} {
		if less, ok := impl.LessForm(pair[0], pair[1]); less || !ok {
			t.Error("LessForm tells nil from empty", less, ok)
		}
	}
	if s, ok := impl.FormText(one); s != "{{|}|}" || !ok {
		t.Error("FormText with empty lists", s, ok)
	}
	f, ok = impl.PartAt(one, 0)
	wantForm(t, "PartAt with empty lists", f, ok, zeroGame())
}

func TestP3NoGamesToRead(t *testing.T) {
	bad := []string{
		"", "{", "}", "|", ",", "{}", "{|", "|}", "{||}", "{|}}", "{{|}", "{|}{|}", "{|},", ",{|}", "{|},{|}", "{,|}", "{|,}", "{,|,}", "{{|},|}", "{,{|}|}", "{|{|},}", "{|,{|}}", "{{|},,{|{|}}|}", "{{|}{|{|}}|}", "{{|},{|{|}}}", "{{|}{|}}", "{{|}|{|}}}", "{{{|}|{|}}",
		"{{|},{|}|}", "{|{|},{|}}", "{{|},{|}|{|}}", "{{{|}|},{|}|}", "{|{{|}|},{|}}", "{{{|}|},{|{|}}|}", "{{{|}|{|}},{{|}|}|}", "{{{|}|{|}},{{|}|{|}}|}", "{{{|},{|}|}|}", "{|{|{|},{|}}}", "{{{|{|}},{|}|}|}", "{{|},{|{|}},{|}|}",
		"{|}x", "{|} ", " {|}", "{ |}", "{| }", "{|}\n", "{|}\x00", "{|}{", "{|}|", "{|}}", "x", "0", "{0|0}", "[|]", "(|)", "{{|}:{|}}", "{|\xff}", "{{|};{|{|}}|}",
		strings.Repeat("{", 4000), strings.Repeat("{", 2000) + strings.Repeat("|}", 1000), strings.Repeat("{", 1334) + strings.Repeat("|}", 1333), strings.Repeat("{", 1333) + strings.Repeat("|}", 1333), strings.Repeat("{|", 2000), strings.Repeat("{|", 1000) + strings.Repeat("}", 1000), strings.Repeat("{|},", 1000),
		strings.Repeat("{", 20000000), strings.Repeat("{|", 1000000), "{|}" + strings.Repeat(" ", 1000000), strings.Repeat("{", 121) + strings.Repeat("|}", 121), "{" + strings.Repeat("{|},", 999) + "|}",
	}
	for _, s := range bad {
		f, ok := impl.ReadForm(s)
		wantNoForm(t, fmt.Sprintf("ReadForm(%.60q)", s), f, ok)
	}
}

func TestP3ReadsOnlyWhatIsWritten(t *testing.T) {
	const longest = 9
	written := map[string]impl.Form{}
	for _, g := range plainDay2() {
		if s := plainFormText(g); len(s) <= longest {
			written[s] = plainForm(g)
		}
	}
	for _, s := range textsOf("{|},", longest) {
		f, ok := impl.ReadForm(s)
		if want, found := written[s]; found {
			wantForm(t, "ReadForm("+s+")", f, ok, want)
		} else {
			wantNoForm(t, "ReadForm("+s+")", f, ok)
		}
	}
}

// A changed text is either the text of another game or of none.
func TestP3ReadsChangedTextsOnlyAsWritten(t *testing.T) {
	for _, g := range plainMixed(25) {
		s := plainFormText(g)
		for i := range len(s) {
			changed := []string{s[:i], s[i:], s[:i] + s[i+1:]}
			for _, c := range []string{"{", "|", "}", ",", " ", "{|}"} {
				changed = append(changed, s[:i]+c+s[i:], s[:i]+c+s[i+1:])
			}
			for _, text := range changed {
				f, ok := impl.ReadForm(text)
				if back, fine := impl.FormText(f); ok && (!fine || back != text) {
					t.Errorf("ReadForm(%q) gives a form of the text %q", text, back)
				} else if !ok {
					wantNoForm(t, "ReadForm("+text+")", f, ok)
				}
			}
		}
	}
}

// gameOfLength halves where it can, because a chain of that length would have too many nodes.
func gameOfLength(t *testing.T, length int) impl.Form {
	t.Helper()
	if length <= 60 && length%3 == 0 {
		return chainOf(length / 3)
	}
	if length <= 60 && length%3 == 1 {
		return made(t, []impl.Form{zeroGame(), chainOf((length - 7) / 3)}, nil)
	}
	if length%2 == 0 {
		return made(t, []impl.Form{gameOfLength(t, length-3)}, nil)
	}
	half := []impl.Form{gameOfLength(t, (length-3)/2)}
	return made(t, half, half)
}

func textWithoutLimit(f impl.Form) string {
	var texts []string
	for _, n := range f.Nodes {
		var lists [2][]string
		for side, options := range [][]int{n.Left, n.Right} {
			for _, option := range options {
				lists[side] = append(lists[side], texts[option])
			}
		}
		texts = append(texts, "{"+strings.Join(lists[0], ",")+"|"+strings.Join(lists[1], ",")+"}")
	}
	return texts[len(texts)-1]
}

func TestP3LongestText(t *testing.T) {
	for length := 3960; length <= 4040; length++ {
		f := gameOfLength(t, length)
		want := textWithoutLimit(f)
		if len(want) != length {
			t.Fatalf("a text of %d bytes instead of %d", len(want), length)
		}
		s, ok := impl.FormText(f)
		g, fine := impl.ReadForm(want)
		if length > longestText {
			wantNoText(t, fmt.Sprint("FormText of length ", length), s, ok)
			wantNoForm(t, fmt.Sprint("ReadForm of length ", length), g, fine)
			continue
		}
		if s != want || !ok {
			t.Errorf("FormText of length %d has %d bytes, %v", length, len(s), ok)
		}
		wantForm(t, fmt.Sprint("ReadForm of length ", length), g, fine, f)
	}
}

func TestP3TextsThatDoubleHaveNoText(t *testing.T) {
	f := ladderOf(mostNodes)
	if !impl.GoodForm(f) {
		t.Error("GoodForm is false")
	}
	s, ok := impl.FormText(f)
	wantNoText(t, "FormText", s, ok)
	all := towerOf(mostNodes)
	if !impl.GoodForm(all) {
		t.Error("GoodForm is false for many options")
	}
	s, ok = impl.FormText(all)
	wantNoText(t, "FormText of many options", s, ok)
}

func copied(f impl.Form) impl.Form {
	var c impl.Form
	for _, n := range f.Nodes {
		c.Nodes = append(c.Nodes, node(slices.Clone(n.Left), slices.Clone(n.Right)))
	}
	return c
}

// spoil overwrites what f has, and also what its slices have behind their ends.
func spoil(f impl.Form) {
	nodes := f.Nodes[:cap(f.Nodes)]
	for i := range nodes {
		for _, l := range [][]int{nodes[i].Left, nodes[i].Right} {
			l = l[:cap(l)]
			for k := range l {
				l[k] = -77
			}
		}
		nodes[i] = node(ints(-78), ints(-79))
	}
}

func spoilAll(l []impl.Form) {
	for _, f := range l[:cap(l)] {
		spoil(f)
	}
	clear(l[:cap(l)])
}

// withSpare has elements behind the end of each slice, which no function may read or write.
func withSpare(f impl.Form) impl.Form {
	spare := impl.Form{Nodes: make([]impl.Node, len(f.Nodes), len(f.Nodes)+2)}
	for i, n := range f.Nodes {
		left, right := append(slices.Clone(n.Left), -5, 0), append(slices.Clone(n.Right), 3, 3)
		spare.Nodes[i] = node(left[:len(n.Left)], right[:len(n.Right)])
	}
	behind := spare.Nodes[:cap(spare.Nodes)]
	for i := len(f.Nodes); i < len(behind); i++ {
		behind[i] = node(ints(-9), ints(9))
	}
	return spare
}

func wantSpare(t *testing.T, name string, got impl.Form, f impl.Form) {
	t.Helper()
	want := withSpare(f)
	whole := func(f impl.Form) impl.Form {
		var all impl.Form
		for _, n := range f.Nodes[:cap(f.Nodes)] {
			all.Nodes = append(all.Nodes, node(n.Left[:cap(n.Left)], n.Right[:cap(n.Right)]))
		}
		return all
	}
	if len(got.Nodes) != len(want.Nodes) || fmt.Sprint(whole(got)) != fmt.Sprint(whole(want)) {
		t.Errorf("%s modified an argument: %v", name, whole(got))
	}
}

func TestP30FormFunctionsModifyNoArgument(t *testing.T) {
	for _, g := range append(plainDay2(), plainMixed(30)...) {
		want := plainForm(g)
		f := withSpare(want)
		if !impl.GoodForm(f) || !impl.SameForm(f, want) {
			t.Errorf("elements behind the end of a slice of %v count", want)
		}
		if s, ok := impl.FormText(f); !ok || s != plainFormText(g) {
			t.Errorf("FormText(%v) = %q, %v", want, s, ok)
		}
		if n, ok := impl.BornOf(f); !ok || n != g.born {
			t.Errorf("BornOf(%v) = %d, %v", want, n, ok)
		}
		if less, ok := impl.LessForm(f, f); less || !ok {
			t.Errorf("LessForm of %v with itself = %v, %v", want, less, ok)
		}
		part, ok := impl.PartAt(f, len(f.Nodes)-1)
		wantForm(t, "PartAt", part, ok, want)
		left, right, ok := impl.OptionsOf(f)
		again, fine := impl.MakeForm(left, right)
		wantForm(t, "MakeForm of the options", again, ok && fine, want)
		wantSpare(t, plainFormText(g), f, want)
	}
}

func TestP30MakeFormReadsOnlyTheLists(t *testing.T) {
	one, star := chainOf(2), formOf(node(nil, nil), node(ints(0), ints(0)))
	left := []impl.Form{withSpare(star), withSpare(one), withSpare(one), {}, chainOf(130)}
	right := []impl.Form{withSpare(one), {}, {}}
	f, ok := impl.MakeForm(left[:3], right[:1])
	wantForm(t, "MakeForm", f, ok, formOf(node(nil, nil), node(ints(0), nil), node(ints(0), ints(0)), node(ints(1, 2), ints(1))))
	for i, want := range []impl.Form{star, one, one} {
		wantSpare(t, fmt.Sprint("left ", i), left[i], want)
	}
	wantSpare(t, "right", right[0], one)
	if len(left[3].Nodes) != 0 || len(left[4].Nodes) != 130 || len(right[1].Nodes) != 0 || len(right[2].Nodes) != 0 {
		t.Error("MakeForm wrote behind the end of a list")
	}
}

func TestP30FormsShareNoMemory(t *testing.T) {
	for _, g := range append(plainDay2(), plainMixed(30)...) {
		want := plainForm(g)
		f := copied(want)
		left, right, _ := impl.OptionsOf(f)
		part, _ := impl.PartAt(f, len(f.Nodes)-1)
		again, _ := impl.MakeForm(left, right)
		for i := range left {
			wantForm(t, "left option", left[i], true, plainForm(g.left[i]))
			spoil(left[i])
		}
		for i := range right {
			wantForm(t, "right option", right[i], true, plainForm(g.right[i]))
			spoil(right[i])
		}
		spoilAll(left)
		spoilAll(right)
		wantForm(t, "the form after its options were changed", f, true, want)
		wantForm(t, "the part after the options were changed", part, true, want)
		wantForm(t, "the made form after its options were changed", again, true, want)
		spoil(f)
		wantForm(t, "the part after the form was changed", part, true, want)
		spoil(part)
		wantForm(t, "the made form after the part was changed", again, true, want)
	}
}

// wantOwnLists fails if the lists of the nodes of f lie in each other's memory, or in each other's spare memory. It spoils f.
func wantOwnLists(t *testing.T, name string, f impl.Form) {
	t.Helper()
	want := copied(f)
	for _, n := range f.Nodes {
		_ = append(append(n.Left, -1), -1)
		_ = append(append(n.Right, -1), -1)
	}
	wantForm(t, name+" after its lists were lengthened", f, true, want)
	for k := range f.Nodes {
		want = copied(f)
		clear(f.Nodes[k].Left)
		want.Nodes[k].Left = f.Nodes[k].Left
		wantForm(t, name+" after one of its lists was changed", f, true, want)
	}
}

func TestP30ListsOfOneFormShareNoMemory(t *testing.T) {
	for _, g := range append(plainDay2(), plainMixed(30)...) {
		built, _ := impl.MakeForm(plainForms(g.left), plainForms(g.right))
		part, _ := impl.PartAt(built, len(built.Nodes)-1)
		text, _ := impl.ReadForm(plainFormText(g))
		for _, f := range []impl.Form{built, part, text} {
			wantOwnLists(t, "a form", f)
		}
	}
}

func TestP30FormFunctionsReturnForAll(t *testing.T) {
	values, forms := append(extremeInts(), -1, 0, 1, 2), strangeForms()
	for i, f := range forms {
		func() {
			defer noPanic(t, fmt.Sprint(f))
			g := forms[(i*7+3)%len(forms)]
			impl.GoodForm(f)
			impl.MakeForm([]impl.Form{f, g}, []impl.Form{g, f})
			impl.MakeForm([]impl.Form{f}, nil)
			impl.OptionsOf(f)
			impl.SameForm(f, g)
			impl.LessForm(f, g)
			impl.LessForm(g, f)
			impl.BornOf(f)
			impl.FormText(f)
			for _, n := range values {
				impl.PartAt(f, n)
			}
		}()
	}
}

func TestP30LargestListsOfForms(t *testing.T) {
	big := towerOf(mostNodes)
	hundred := slices.Repeat([]impl.Form{big}, 100)
	f, ok := impl.MakeForm(hundred, hundred)
	wantNoForm(t, "MakeForm of the largest lists", f, ok)
	smaller := impl.Form{Nodes: big.Nodes[:mostNodes-1]}
	hundred = slices.Repeat([]impl.Form{smaller}, 100)
	f, ok = impl.MakeForm(hundred, hundred)
	last := mostNodes - 2
	wantForm(t, "MakeForm of the largest lists", f, ok, impl.Form{Nodes: append(copied(smaller).Nodes, node(ints(last), ints(last)))})
	if less, ok := impl.LessForm(big, big); less || !ok {
		t.Error("LessForm of the largest form", less, ok)
	}
}

func TestP30FormFunctionsKeepNoState(t *testing.T) {
	for range 2 {
		f, ok := impl.ReadForm("{{|}|{|}}")
		wantForm(t, "ReadForm", f, ok, formOf(node(nil, nil), node(ints(0), ints(0))))
		f, ok = impl.ReadForm("{{|},{|}|}")
		wantNoForm(t, "ReadForm", f, ok)
		f, ok = impl.MakeForm([]impl.Form{chainOf(2)}, []impl.Form{zeroGame()})
		wantForm(t, "MakeForm", f, ok, formOf(node(nil, nil), node(ints(0), nil), node(ints(1), ints(0))))
		f, ok = impl.MakeForm([]impl.Form{chainOf(121)}, nil)
		wantNoForm(t, "MakeForm", f, ok)
	}
}
