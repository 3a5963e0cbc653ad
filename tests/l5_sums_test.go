package tests

import (
	"fmt"
	"math"
	"slices"
	"strings"
	"testing"

	"loop.example/g00868/impl"
)

const (
	mostPairs  = 1600
	mostSummed = 12
)

// A catalog numbers games by their options, so that identical games have one number, and adds them by the document's words without forms and limits.
type catalog struct {
	numbers   map[string]int
	games     [][2][]int
	sums      map[[2]int]int
	ordinals  map[[2]int]int
	negatives map[int]int
	fitting   map[int]bool
}

func newCatalog() *catalog {
	return &catalog{numbers: map[string]int{}, sums: map[[2]int]int{}, ordinals: map[[2]int]int{}, negatives: map[int]int{}, fitting: map[int]bool{}}
}

func (c *catalog) enter(left []int, right []int) int {
	left, right = slices.Compact(slices.Sorted(slices.Values(left))), slices.Compact(slices.Sorted(slices.Values(right)))
	key := fmt.Sprint(left, right)
	if _, found := c.numbers[key]; !found {
		c.numbers[key] = len(c.games)
		c.games = append(c.games, [2][]int{left, right})
	}
	return c.numbers[key]
}

func (c *catalog) read(f impl.Form) int {
	var all []int
	for _, n := range f.Nodes {
		var lists [2][]int
		for side, options := range [][]int{n.Left, n.Right} {
			for _, option := range options {
				lists[side] = append(lists[side], all[option])
			}
		}
		all = append(all, c.enter(lists[0], lists[1]))
	}
	return all[len(all)-1]
}

func (c *catalog) sum(a int, b int) int {
	if number, found := c.sums[[2]int{a, b}]; found {
		return number
	}
	var lists [2][]int
	for side := range lists {
		for _, option := range c.games[a][side] {
			lists[side] = append(lists[side], c.sum(option, b))
		}
		for _, option := range c.games[b][side] {
			lists[side] = append(lists[side], c.sum(a, option))
		}
	}
	c.sums[[2]int{a, b}] = c.enter(lists[0], lists[1])
	return c.sums[[2]int{a, b}]
}

func (c *catalog) ordinal(a int, b int) int {
	if number, found := c.ordinals[[2]int{a, b}]; found {
		return number
	}
	var lists [2][]int
	for side := range lists {
		lists[side] = slices.Clone(c.games[a][side])
		for _, option := range c.games[b][side] {
			lists[side] = append(lists[side], c.ordinal(a, option))
		}
	}
	c.ordinals[[2]int{a, b}] = c.enter(lists[0], lists[1])
	return c.ordinals[[2]int{a, b}]
}

func (c *catalog) negative(a int) int {
	if number, found := c.negatives[a]; found {
		return number
	}
	var lists [2][]int
	for side := range lists {
		for _, option := range c.games[a][1-side] {
			lists[side] = append(lists[side], c.negative(option))
		}
	}
	c.negatives[a] = c.enter(lists[0], lists[1])
	return c.negatives[a]
}

func (c *catalog) parts(a int) []int {
	found := make([]bool, len(c.games))
	found[a] = true
	parts := []int{a}
	for i := 0; i < len(parts); i++ {
		for _, options := range c.games[parts[i]] {
			for _, option := range options {
				if !found[option] {
					found[option] = true
					parts = append(parts, option)
				}
			}
		}
	}
	return parts
}

func (c *catalog) fits(a int) bool {
	if fits, found := c.fitting[a]; found {
		return fits
	}
	parts := c.parts(a)
	c.fitting[a] = len(parts) <= mostNodes && !slices.ContainsFunc(parts, func(part int) bool {
		return len(c.games[part][0]) > mostOptions || len(c.games[part][1]) > mostOptions
	})
	return c.fitting[a]
}

// want needs no form to compare with, because a game has only one valid form.
func (c *catalog) want(t *testing.T, name string, got impl.Form, ok bool, number int) {
	t.Helper()
	if !c.fits(number) {
		wantNoForm(t, name+", beyond the limits,", got, ok)
	} else if !ok || !impl.GoodForm(got) || c.read(got) != number {
		t.Errorf("%s = %v, %v, want %d nodes of another form and true", name, got, ok, len(c.parts(number)))
	}
}

// wantPair returns whether the sum of a and b has a form.
func (c *catalog) wantPair(t *testing.T, name string, a impl.Form, b impl.Form) bool {
	t.Helper()
	sum, ok := impl.SumForms(a, b)
	minus, fine := impl.MinusForms(a, b)
	ordinal, good := impl.OrdinalSum(a, b)
	if len(a.Nodes)*len(b.Nodes) > mostPairs {
		wantNoForm(t, "SumForms of "+name, sum, ok)
		wantNoForm(t, "MinusForms of "+name, minus, fine)
		wantNoForm(t, "OrdinalSum of "+name, ordinal, good)
		return false
	}
	m, n := c.read(a), c.read(b)
	c.want(t, "SumForms of "+name, sum, ok, c.sum(m, n))
	c.want(t, "MinusForms of "+name, minus, fine, c.sum(m, c.negative(n)))
	c.want(t, "OrdinalSum of "+name, ordinal, good, c.ordinal(m, n))
	return ok
}

func negated(t *testing.T, f impl.Form) impl.Form {
	t.Helper()
	g, ok := impl.NegForm(f)
	if !ok {
		t.Fatalf("NegForm of %d nodes fails", len(f.Nodes))
	}
	return g
}

func added(t *testing.T, a impl.Form, b impl.Form) impl.Form {
	t.Helper()
	f, ok := impl.SumForms(a, b)
	if !ok {
		t.Fatalf("SumForms of %d and %d nodes fails", len(a.Nodes), len(b.Nodes))
	}
	return f
}

func topped(t *testing.T, a impl.Form, b impl.Form) impl.Form {
	t.Helper()
	f, ok := impl.OrdinalSum(a, b)
	if !ok {
		t.Fatalf("OrdinalSum of %d and %d nodes fails", len(a.Nodes), len(b.Nodes))
	}
	return f
}

func wantSum(t *testing.T, name string, a impl.Form, b impl.Form, want impl.Form) {
	t.Helper()
	f, ok := impl.SumForms(a, b)
	wantForm(t, "SumForms of "+name, f, ok, want)
	f, ok = impl.SumForms(b, a)
	wantForm(t, "SumForms in reverse of "+name, f, ok, want)
}

func wantNoSum(t *testing.T, name string, a impl.Form, b impl.Form) {
	t.Helper()
	f, ok := impl.SumForms(a, b)
	wantNoForm(t, "SumForms of "+name, f, ok)
	f, ok = impl.SumForms(b, a)
	wantNoForm(t, "SumForms in reverse of "+name, f, ok)
}

func wantMany(t *testing.T, name string, want impl.Form, l ...impl.Form) {
	t.Helper()
	f, ok := impl.SumOfMany(l)
	wantForm(t, "SumOfMany of "+name, f, ok, want)
}

func wantNoMany(t *testing.T, name string, l ...impl.Form) {
	t.Helper()
	f, ok := impl.SumOfMany(l)
	wantNoForm(t, "SumOfMany of "+name, f, ok)
}

func wantTimes(t *testing.T, n int, f impl.Form, want impl.Form) {
	t.Helper()
	got, ok := impl.TimesForm(n, f)
	wantForm(t, fmt.Sprintf("TimesForm(%d, %d nodes)", n, len(f.Nodes)), got, ok, want)
}

func wantNoTimes(t *testing.T, n int, f impl.Form) {
	t.Helper()
	got, ok := impl.TimesForm(n, f)
	wantNoForm(t, fmt.Sprintf("TimesForm(%d, %d nodes)", n, len(f.Nodes)), got, ok)
}

func wantOrdinal(t *testing.T, name string, a impl.Form, b impl.Form, want impl.Form) {
	t.Helper()
	f, ok := impl.OrdinalSum(a, b)
	wantForm(t, "OrdinalSum of "+name, f, ok, want)
}

func wantNoOrdinal(t *testing.T, name string, a impl.Form, b impl.Form) {
	t.Helper()
	f, ok := impl.OrdinalSum(a, b)
	wantNoForm(t, "OrdinalSum of "+name, f, ok)
}

// named has short names for games that the tables of this file add.
func named(t *testing.T) map[string]impl.Form {
	t.Helper()
	games := map[string]impl.Form{}
	for name, text := range map[string]string{
		"0": "{|}", "1": "{{|}|}", "-1": "{|{|}}", "*": "{{|}|{|}}", "2": "{{{|}|}|}", "-2": "{|{|{|}}}", "up": "{{|}|{{|}|{|}}}", "down": "{{{|}|{|}}|{|}}", "±1": "{{{|}|}|{|{|}}}",
		"1/2": "{{|}|{{|}|}}", "-1/2": "{{|{|}}|{|}}", "*2": "{{|},{{|}|{|}}|{|},{{|}|{|}}}", "{*|*}": "{{{|}|{|}}|{{|}|{|}}}", "{-1|1}": "{{|{|}}|{{|}|}}", "{1,*|1}": "{{{|}|},{{|}|{|}}|{{|}|}}", "{-1|-1,*}": "{{|{|}}|{|{|}},{{|}|{|}}}",
		"{0,1|}": "{{|},{{|}|}|}", "{|0,-1}": "{|{|},{|{|}}}", "{0,1|1}": "{{|},{{|}|}|{{|}|}}", "{0,*|0}": "{{|},{{|}|{|}}|{|}}", "{0|0,*}": "{{|}|{|},{{|}|{|}}}",
		"{-1|}": "{{|{|}}|}", "{|1}": "{|{{|}|}}", "{*|}": "{{{|}|{|}}|}", "{|*}": "{|{{|}|{|}}}", "{1|0}": "{{{|}|}|{|}}", "{0|-1}": "{{|}|{|{|}}}", "{0|1,*}": "{{|}|{{|}|},{{|}|{|}}}", "{-1,*|0}": "{{|{|}},{{|}|{|}}|{|}}",
		"{-1,1,*|}": "{{|{|}},{{|}|},{{|}|{|}}|}", "{|-1,1,*}": "{|{|{|}},{{|}|},{{|}|{|}}}", "{1,*|0,-1}": "{{{|}|},{{|}|{|}}|{|},{|{|}}}", "{0,1|-1,*}": "{{|},{{|}|}|{|{|}},{{|}|{|}}}", "{up,down|}": "{{{|}|{{|}|{|}}},{{{|}|{|}}|{|}}|}", "{|up,down}": "{|{{|}|{{|}|{|}}},{{{|}|{|}}|{|}}}",
	} {
		games[name] = read(t, text)
	}
	return games
}

func pick(t *testing.T, games map[string]impl.Form, names string) []impl.Form {
	t.Helper()
	var l []impl.Form
	for _, name := range strings.Fields(names) {
		f, found := games[name]
		if !found {
			t.Fatal("no game named", name)
		}
		l = append(l, f)
	}
	return l
}

func TestP5Limit(t *testing.T) {
	if impl.MaxPairs != mostPairs {
		t.Error("MaxPairs is", impl.MaxPairs)
	}
}

func TestP5KnownNegatives(t *testing.T) {
	games := named(t)
	for _, pair := range [][2]string{
		{"0", "0"}, {"1", "-1"}, {"2", "-2"}, {"*", "*"}, {"up", "down"}, {"±1", "±1"}, {"1/2", "-1/2"}, {"*2", "*2"}, {"{*|*}", "{*|*}"}, {"{-1|1}", "{-1|1}"}, {"{0,*|0}", "{0|0,*}"}, {"{1,*|1}", "{-1|-1,*}"},
		{"{-1|}", "{|1}"}, {"{*|}", "{|*}"}, {"{1|0}", "{0|-1}"}, {"{0,1|}", "{|0,-1}"}, {"{0|1,*}", "{-1,*|0}"}, {"{-1,1,*|}", "{|-1,1,*}"}, {"{0,1|-1,*}", "{1,*|0,-1}"}, {"{up,down|}", "{|up,down}"},
	} {
		f, ok := impl.NegForm(games[pair[0]])
		wantForm(t, "NegForm of "+pair[0], f, ok, games[pair[1]])
		f, ok = impl.NegForm(games[pair[1]])
		wantForm(t, "NegForm of "+pair[1], f, ok, games[pair[0]])
	}
}

func TestP5NegativesOfAll(t *testing.T) {
	c := newCatalog()
	forms := append(plainForms(plainDay2()), zeroGame(), chainOf(mostNodes), minusChain(mostNodes), towerOf(mostNodes), ladderOf(mostNodes), withAllOptions(mostOptions, true, false), withAllOptions(mostOptions, false, true))
	for _, g := range plainMixed(100) {
		if f := plainForm(g); len(f.Nodes) <= mostNodes {
			forms = append(forms, f)
		}
	}
	for i, f := range append(forms, tangles(mostNodes, 10)...) {
		g, ok := impl.NegForm(f)
		c.want(t, fmt.Sprint("NegForm of game ", i), g, ok, c.negative(c.read(f)))
		back, ok := impl.NegForm(g)
		wantForm(t, fmt.Sprint("NegForm twice of game ", i), back, ok, f)
		wantOutcome(t, fmt.Sprint("the negative of game ", i), g, opposite(plainClass(plainOrder(f, zeroGame()))))
	}
}

func TestP5KnownSums(t *testing.T) {
	games := named(t)
	for _, c := range [][3]string{
		{"0", "0", "0"}, {"0", "*", "*"}, {"0", "up", "up"}, {"0", "{*|}", "{*|}"}, {"1", "1", "2"}, {"-1", "-1", "-2"}, {"1", "-1", "{-1|1}"}, {"*", "*", "{*|*}"}, {"1", "*", "{1,*|1}"}, {"-1", "*", "{-1|-1,*}"},
	} {
		wantSum(t, c[0]+", "+c[1], games[c[0]], games[c[1]], games[c[2]])
	}
	games["up+*"] = made(t, pick(t, games, "* up"), pick(t, games, "up {*|*}"))
	games["1+1/2"] = made(t, pick(t, games, "1/2 1"), pick(t, games, "2"))
	for _, c := range []struct{ a, b, left, right string }{
		{"up", "*", "* up", "up {*|*}"},
		{"down", "*", "down {*|*}", "* down"},
		{"±1", "*", "{1,*|1} ±1", "{-1|-1,*} ±1"},
		{"1", "{*|}", "{*|} {1,*|1}", ""},
		{"-1", "{|*}", "", "{|*} {-1|-1,*}"},
		{"1", "1/2", "1/2 1", "2"},
		{"1/2", "1/2", "1/2", "1+1/2"},
		{"±1", "0", "1", "-1"},
		{"1", "±1", "±1 2", "{-1|1}"},
		{"up", "up", "up", "up+*"},
		{"1", "{-1|}", "{-1|} {-1|1}", ""},
		{"-1", "1/2", "-1", "1/2 {-1|1}"},
	} {
		wantSum(t, c.a+", "+c.b, games[c.a], games[c.b], made(t, pick(t, games, c.left), pick(t, games, c.right)))
	}
}

func TestP5KnownDifferences(t *testing.T) {
	games := named(t)
	for _, c := range [][3]string{
		{"0", "0", "0"}, {"0", "1", "-1"}, {"1", "0", "1"}, {"0", "up", "down"}, {"up", "0", "up"}, {"0", "{*|}", "{|*}"}, {"1", "-1", "2"}, {"-1", "1", "-2"}, {"1", "1", "{-1|1}"}, {"-1", "-1", "{-1|1}"},
		{"*", "*", "{*|*}"}, {"*", "1", "{-1|-1,*}"}, {"*", "-1", "{1,*|1}"}, {"1", "*", "{1,*|1}"}, {"-1", "*", "{-1|-1,*}"},
	} {
		f, ok := impl.MinusForms(games[c[0]], games[c[1]])
		wantForm(t, "MinusForms of "+c[0]+", "+c[1], f, ok, games[c[2]])
	}
}

func TestP5KnownOrdinalSums(t *testing.T) {
	games := named(t)
	for _, c := range [][3]string{
		{"1", "*", "{0,1|1}"}, {"*", "1", "{0,*|0}"}, {"*", "-1", "{0|0,*}"}, {"*", "*", "*2"}, {"1", "-1", "1/2"}, {"-1", "1", "-1/2"}, {"1", "1", "{0,1|}"}, {"-1", "-1", "{|0,-1}"},
		{"0", "0", "0"}, {"0", "1", "1"}, {"0", "up", "up"}, {"0", "{*|}", "{*|}"}, {"1", "0", "1"}, {"up", "0", "up"}, {"{*|}", "0", "{*|}"},
	} {
		wantOrdinal(t, c[0]+" : "+c[1], games[c[0]], games[c[1]], games[c[2]])
	}
	for _, c := range []struct{ a, b, left, right string }{
		{"up", "1", "0 up", "*"},
		{"up", "-1", "0", "* up"},
		{"up", "*", "0 up", "* up"},
		{"1", "up", "0 1", "{0,1|1}"},
		{"1", "{*|}", "0 {0,1|1}", ""},
		{"{*|}", "1", "* {*|}", ""},
		{"{*|*}", "1", "* {*|*}", "*"},
		{"{-1|}", "*", "-1 {-1|}", "{-1|}"},
		{"*", "*2", "0 * *2", "0 * *2"},
		{"1/2", "-1", "0", "1 1/2"},
		{"±1", "±1", "1 {1,±1|-1}", "-1 {1|-1,±1}"},
	} {
		games["{1,±1|-1}"] = made(t, pick(t, games, "1 ±1"), pick(t, games, "-1"))
		games["{1|-1,±1}"] = made(t, pick(t, games, "1"), pick(t, games, "-1 ±1"))
		wantOrdinal(t, c.a+" : "+c.b, games[c.a], games[c.b], made(t, pick(t, games, c.left), pick(t, games, c.right)))
	}
}

// The form of the lower game counts, not only its value.
func TestP5OrdinalSumsOfEqualGames(t *testing.T) {
	games := named(t)
	for name, want := range map[string]string{"0": "1", "{-1|1}": "1/2", "{-1|}": "1", "{*|*}": "up", "{|1}": "1/2"} {
		wantOrder(t, name+" and 0", games[name], games["0"], impl.OutSecond)
		wantOrder(t, name+" : 1", topped(t, games[name], games["1"]), games[want], impl.OutSecond)
	}
}

// sample has small games of many values and some that are deep.
func sample() []impl.Form {
	var l []impl.Form
	for i, f := range plainForms(plainDay2()) {
		if i%9 == 0 {
			l = append(l, f)
		}
	}
	for i, g := range plainMixed(60) {
		if f := plainForm(g); i%3 == 0 && len(f.Nodes) <= 25 {
			l = append(l, f)
		}
	}
	l = append(l, chainOf(5), minusChain(4), ladderOf(5), towerOf(4))
	return append(append(l, tangles(6, 5)...), tangles(9, 5)...)
}

func longest() []impl.Form {
	forms := []impl.Form{zeroGame(), chainOf(mostNodes), minusChain(mostNodes), towerOf(mostNodes), ladderOf(mostNodes), withAllOptions(mostOptions, true, false), withAllOptions(mostOptions, true, true)}
	return append(forms, tangles(mostNodes, 10)...)
}

func TestP5SumsWithNothing(t *testing.T) {
	for i, f := range append(append(plainForms(plainDay2()), sample()...), longest()...) {
		name := fmt.Sprint("game ", i)
		zero, minus := zeroGame(), negated(t, f)
		wantSum(t, name+" and 0", f, zero, f)
		g, ok := impl.MinusForms(f, zero)
		wantForm(t, name+" minus 0", g, ok, f)
		g, ok = impl.MinusForms(zero, f)
		wantForm(t, "0 minus "+name, g, ok, minus)
		wantOrdinal(t, name+" : 0", f, zero, f)
		wantOrdinal(t, "0 : "+name, zero, f, f)
		wantMany(t, name, f, f)
		wantMany(t, name+" among many 0", f, zero, zero, zero, zero, zero, f, zero, zero, zero, zero, zero, zero)
		wantTimes(t, 1, f, f)
		wantTimes(t, -1, f, minus)
		wantTimes(t, 0, f, zero)
	}
	wantMany(t, "nothing", zeroGame())
	wantMany(t, "an empty list", zeroGame(), []impl.Form{}...)
	wantMany(t, "0 twelve times", zeroGame(), slices.Repeat([]impl.Form{zeroGame()}, mostSummed)...)
}

func TestP5GameAndItsNegative(t *testing.T) {
	beyond := 0
	for i, f := range append(plainForms(plainDay2()), sample()...) {
		name := fmt.Sprint("game ", i)
		minus := negated(t, f)
		nothing, ok := impl.MinusForms(f, f)
		if !ok {
			beyond++
			continue
		}
		wantOutcome(t, name+" minus itself", nothing, impl.OutSecond)
		wantSum(t, name+" and its negative", f, minus, nothing)
		wantForm(t, "the negative of "+name+" minus itself", negated(t, nothing), true, nothing)
		wantMany(t, name+" and its negative", nothing, f, minus)
		if both, ok := impl.SumForms(f, nothing); ok {
			wantOrder(t, name+" and what is 0", both, f, impl.OutSecond)
		}
		g, ok := impl.MinusForms(minus, minus)
		wantForm(t, "the negative minus itself of "+name, g, ok, nothing)
	}
	if beyond > 2 {
		t.Error(beyond, "games are beyond the limits with their negatives")
	}
}

func TestP5PairsOfDay2(t *testing.T) {
	c := newCatalog()
	forms := plainForms(plainDay2())
	for i, a := range forms {
		for k := i % 3; k < len(forms); k += 3 {
			if !c.wantPair(t, fmt.Sprintf("games %d, %d", i, k), a, forms[k]) {
				t.Fatalf("no sum of games %d, %d", i, k)
			}
		}
	}
}

func TestP5PairsOfMixedGames(t *testing.T) {
	c := newCatalog()
	forms := longest()
	for i, f := range sample() {
		if i%3 == 0 {
			forms = append(forms, f)
		}
	}
	for nodes := 10; nodes <= 100; nodes += 30 {
		forms = append(forms, chainOf(nodes), minusChain(nodes+5), ladderOf(nodes), tangleOf(nodes, 3, nodes))
	}
	sums := map[bool]int{}
	for i, a := range forms {
		for k, b := range forms {
			sums[c.wantPair(t, fmt.Sprintf("mixed games %d, %d", i, k), a, b)]++
		}
	}
	if sums[true] < 500 || sums[false] < 500 {
		t.Error("too few sums with a form or without", sums)
	}
}

func TestP5BothOrders(t *testing.T) {
	forms := sample()
	for i, a := range forms {
		for k, b := range forms[:i] {
			name := fmt.Sprintf("games %d, %d", i, k)
			ab, ok := impl.SumForms(a, b)
			if !ok {
				wantNoSum(t, name, a, b)
				continue
			}
			wantSum(t, name, b, a, ab)
			wantSum(t, "the negatives of "+name, negated(t, a), negated(t, b), negated(t, ab))
			wantMany(t, name, ab, a, b)
			wantMany(t, name+" in reverse", ab, b, a)
			minus, ok := impl.MinusForms(a, b)
			back, fine := impl.MinusForms(b, a)
			if !ok {
				wantNoForm(t, "MinusForms in reverse of "+name, back, fine)
				continue
			}
			wantForm(t, "MinusForms in reverse of "+name, back, fine, negated(t, minus))
			wantSum(t, "a game and a negative of "+name, a, negated(t, b), minus)
		}
	}
}

func TestP5AllWaysToPutThreeTogether(t *testing.T) {
	forms := sample()
	sums := 0
	step := 11
	for range 500 {
		var l []impl.Form
		for range 3 {
			step = step * 48271 % 2147483647
			l = append(l, forms[step/16%len(forms)])
		}
		sums += waysOfThree(t, fmt.Sprint("games by step ", step), l)
	}
	if sums < 500 {
		t.Error("only", sums, "sums of three")
	}
}

// waysOfThree returns the number of ways that give a form.
func waysOfThree(t *testing.T, name string, l []impl.Form) int {
	t.Helper()
	var all []impl.Form
	for _, order := range [][3]int{{0, 1, 2}, {0, 2, 1}, {1, 0, 2}, {1, 2, 0}, {2, 0, 1}, {2, 1, 0}} {
		a, b, c := l[order[0]], l[order[1]], l[order[2]]
		ab, ok := impl.SumForms(a, b)
		first, fine := impl.SumForms(ab, c)
		many, good := impl.SumOfMany([]impl.Form{a, b, c})
		if good != (ok && fine) {
			t.Errorf("SumOfMany of %s is %v, and the sums are %v, %v", name, good, ok, fine)
		}
		if good {
			all = append(all, first, many)
		}
		bc, ok := impl.SumForms(b, c)
		if last, fine := impl.SumForms(a, bc); ok && fine {
			all = append(all, last)
		}
		wantOrdinalOfThree(t, name, a, b, c)
	}
	for _, f := range all {
		wantForm(t, "a sum of three "+name, f, impl.GoodForm(f), all[0])
	}
	return len(all)
}

func wantOrdinalOfThree(t *testing.T, name string, a impl.Form, b impl.Form, c impl.Form) {
	t.Helper()
	ab, ok := impl.OrdinalSum(a, b)
	bc, fine := impl.OrdinalSum(b, c)
	if !ok || !fine {
		return
	}
	first, ok := impl.OrdinalSum(ab, c)
	last, fine := impl.OrdinalSum(a, bc)
	if ok && fine && !sameNodes(first, last) {
		t.Errorf("(a : b) : c and a : (b : c) differ for %s: %v, %v, %v", name, a, b, c)
	}
}

func TestP5SumsOfEqualGamesAreEqual(t *testing.T) {
	rows := equalGames(t)
	for i, row := range rows {
		for k, other := range rows {
			want := added(t, row[0], other[0])
			for m, a := range row {
				for n, b := range other {
					name := fmt.Sprintf("games %d, %d and %d, %d", i, m, k, n)
					wantOrder(t, "the sums of "+name, added(t, a, b), want, impl.OutSecond)
					minus, ok := impl.MinusForms(a, b)
					if outcome, fine := impl.OutcomeOf(minus); !ok || !fine || outcome != plainClass(plainOrder(row[0], other[0])) {
						t.Errorf("the outcome of the difference of %s is %d", name, outcome)
					}
				}
			}
		}
	}
}

// Adding one game to both of two does not change their order, and the game on top of a third decides the order.
func TestP5SumsKeepTheOrder(t *testing.T) {
	forms := sample()
	step := 3
	seen := map[int]int{}
	for range 3000 {
		var l []impl.Form
		for range 3 {
			step = step * 48271 % 2147483647
			l = append(l, forms[step/16%len(forms)])
		}
		name := fmt.Sprint("games by step ", step)
		class := plainClass(plainOrder(l[0], l[1]))
		a, ok := impl.SumForms(l[0], l[2])
		b, fine := impl.SumForms(l[2], l[1])
		if ok && fine {
			seen[class]++
			wantOneOrder(t, "sums with one game, "+name, a, b, class)
		}
		a, ok = impl.OrdinalSum(l[2], l[0])
		b, fine = impl.OrdinalSum(l[2], l[1])
		if ok && fine {
			wantOneOrder(t, "ordinal sums on one game, "+name, a, b, class)
		}
		if minus, ok := impl.MinusForms(l[0], l[1]); ok {
			wantOutcome(t, "a difference, "+name, minus, class)
		}
	}
	if len(seen) != 4 || seen[impl.OutSecond] < 50 {
		t.Error("not all classes", seen)
	}
}

func TestP5SumsOfIntegers(t *testing.T) {
	for n := -18; n <= 18; n++ {
		for k := -5; k <= 5; k++ {
			name := fmt.Sprint(n, ", ", k)
			sum := added(t, integer(n), integer(k))
			wantOrder(t, "the sum of "+name, sum, integer(n+k), impl.OutSecond)
			if n*k >= 0 {
				wantForm(t, "the sum of "+name, sum, true, integer(n+k))
			}
			minus, ok := impl.MinusForms(integer(n), integer(k))
			wantBool(t, "MinusForms of "+name, ok, true, true)
			wantOrder(t, "the difference of "+name, minus, integer(n-k), impl.OutSecond)
		}
	}
}

func TestP5SumsOfNimbers(t *testing.T) {
	for n := range 7 {
		for k := range 7 {
			name := fmt.Sprintf("*%d, *%d", n, k)
			wantOrder(t, "the sum of "+name, added(t, nimber(n), nimber(k)), nimber(n^k), impl.OutSecond)
			wantForm(t, name, topped(t, nimber(n), nimber(k)), true, nimber(n+k))
		}
	}
}

func TestP5Pairs(t *testing.T) {
	for _, c := range []struct {
		a, b int
		good bool
	}{
		{40, 40, true}, {20, 80, true}, {16, 100, true}, {32, 50, true}, {25, 64, true}, {13, 108, true}, {15, 106, true}, {1, 120, true}, {14, 107, true}, {2, 119, true},
		// 1602 is the least product above MaxPairs of two numbers of nodes, as 1601 is prime.
		{18, 89, false}, {41, 40, false}, {21, 80, false}, {17, 100, false}, {17, 95, false}, {41, 41, false}, {60, 60, false}, {27, 60, false}, {33, 49, false},
	} {
		name := fmt.Sprintf("%d and %d nodes", c.a, c.b)
		for _, pair := range [][2]int{{c.a, c.b}, {c.b, c.a}} {
			a, b := chainOf(pair[0]), chainOf(pair[1])
			ordinal, ok := impl.OrdinalSum(a, b)
			minus, fine := impl.MinusForms(a, negated(t, b))
			if !c.good {
				wantNoSum(t, name, a, b)
				wantNoSum(t, name, negated(t, a), negated(t, b))
				wantNoForm(t, "MinusForms of "+name, minus, fine)
				wantNoForm(t, "OrdinalSum of "+name, ordinal, ok)
				wantNoMany(t, name, a, b)
				continue
			}
			wantSum(t, name, a, b, chainOf(c.a+c.b-1))
			wantSum(t, name, negated(t, a), negated(t, b), minusChain(c.a+c.b-1))
			wantForm(t, "MinusForms of "+name, minus, fine, chainOf(c.a+c.b-1))
			wantMany(t, name, chainOf(c.a+c.b-1), a, b)
			if !ok || len(ordinal.Nodes) != c.a+c.b-1 {
				t.Errorf("OrdinalSum of %s has %d nodes, %v", name, len(ordinal.Nodes), ok)
			}
		}
	}
}

func TestP5MostNodes(t *testing.T) {
	for _, c := range []struct {
		name string
		a, b impl.Form
		good bool
	}{
		{"118 and 1", chainOf(119), chainOf(2), true}, {"119 and 1", chainOf(120), chainOf(2), false},
		{"105 and 14", chainOf(106), chainOf(15), true}, {"107 and 13", chainOf(108), chainOf(14), false}, {"106 and 13", chainOf(107), chainOf(14), true},
		{"119 and 0", chainOf(120), zeroGame(), true}, {"119 and 2", chainOf(120), chainOf(3), false},
		{"11 and -9", chainOf(12), minusChain(10), true}, {"10 and -10", chainOf(11), minusChain(11), false}, {"59 and -1", chainOf(60), minusChain(2), true}, {"60 and -1", chainOf(61), minusChain(2), false},
		{"39 and -2", chainOf(40), minusChain(3), true}, {"40 and -2", chainOf(41), minusChain(3), false}, {"7 and -14", chainOf(8), minusChain(15), true}, {"10 and *", chainOf(11), nimber(1), true},
		{"59 and *", chainOf(60), nimber(1), true}, {"60 and *", chainOf(61), nimber(1), false}, {"119 and *", chainOf(120), nimber(1), false},
		{"ladders of 60 and 61", ladderOf(15), ladderOf(106), true}, {"ladders of 108 and 14", ladderOf(108), ladderOf(14), false},
	} {
		f, ok := impl.SumForms(c.a, c.b)
		if !c.good {
			wantNoForm(t, "SumForms of "+c.name, f, ok)
			wantNoSum(t, c.name, c.a, c.b)
			wantNoSum(t, "the negatives of "+c.name, negated(t, c.a), negated(t, c.b))
			wantNoMany(t, c.name, c.a, c.b)
			continue
		}
		if !ok || !impl.GoodForm(f) {
			t.Errorf("SumForms of %s fails", c.name)
		}
		wantSum(t, c.name, c.b, c.a, f)
		newCatalog().wantPair(t, c.name, c.a, c.b)
	}
	f := added(t, chainOf(12), minusChain(10))
	if len(f.Nodes) != mostNodes {
		t.Errorf("11 and -9 have %d nodes", len(f.Nodes))
	}
}

func TestP5MostNodesOfOrdinalSums(t *testing.T) {
	for _, c := range []struct {
		below, above int
		good         bool
	}{
		{120, 1, true}, {1, 120, true}, {119, 2, true}, {2, 119, true}, {120, 2, false}, {2, 120, false}, {106, 15, true}, {15, 106, true}, {107, 14, true}, {14, 107, true}, {108, 14, false}, {14, 108, false}, {118, 4, false}, {4, 118, false},
	} {
		name := fmt.Sprintf("%d nodes : %d nodes", c.below, c.above)
		for _, on := range []impl.Form{chainOf(c.above), minusChain(c.above), ladderOf(c.above)} {
			for _, base := range []impl.Form{chainOf(c.below), minusChain(c.below), ladderOf(c.below)} {
				f, ok := impl.OrdinalSum(base, on)
				if !c.good {
					wantNoForm(t, "OrdinalSum of "+name, f, ok)
					continue
				}
				cat := newCatalog()
				cat.want(t, "OrdinalSum of "+name, f, ok, cat.ordinal(cat.read(base), cat.read(on)))
				if len(f.Nodes) != c.below+c.above-1 {
					t.Errorf("OrdinalSum of %s has %d nodes", name, len(f.Nodes))
				}
			}
		}
	}
}

func TestP5MostOptions(t *testing.T) {
	for _, left := range []bool{true, false} {
		all := func(options int) impl.Form { return withAllOptions(options, left, !left) }
		one := integer(1)
		for _, c := range []struct {
			name string
			a, b impl.Form
			good bool
		}{
			{"23 options and 1", all(23), one, true}, {"24 options and 1", all(24), one, !left}, {"24 options and -1", all(24), negated(t, one), left}, {"24 options and 0", all(24), zeroGame(), true},
			{"24 options and *", all(24), nimber(1), false}, {"23 options and *", all(23), nimber(1), true},
			// The options fall together, but one of them has an option of each number and one more.
			{"23 options twice", all(23), all(23), true}, {"24 options twice", all(24), all(24), !left}, {"12 options twice", all(12), all(12), true},
			{"24 options below the game and 1", made(t, []impl.Form{all(24)}, nil), one, !left}, {"23 options below the game and 1", made(t, []impl.Form{all(23)}, nil), one, true},
			{"24 options below the game and -1", made(t, nil, []impl.Form{all(24)}), negated(t, one), left},
		} {
			f, ok := impl.SumForms(c.a, c.b)
			cat := newCatalog()
			number := cat.sum(cat.read(c.a), cat.read(c.b))
			if c.good != cat.fits(number) {
				t.Errorf("%s, %v: the sum fits: %v", c.name, left, !c.good)
			}
			cat.want(t, "SumForms of "+c.name, f, ok, number)
			cat.wantPair(t, c.name, c.b, c.a)
		}
		for below := 1; below <= mostOptions; below++ {
			for above := max(1, 22-below); above <= min(26-below, mostOptions); above++ {
				f, ok := impl.OrdinalSum(all(below), all(above))
				name := fmt.Sprintf("OrdinalSum of %d options : %d options", below, above)
				if below+above > mostOptions {
					wantNoForm(t, name, f, ok)
					continue
				}
				cat := newCatalog()
				cat.want(t, name, f, ok, cat.ordinal(cat.read(all(below)), cat.read(all(above))))
			}
		}
	}
}

func TestP5ManyInOrder(t *testing.T) {
	games := named(t)
	wantMany(t, "1, -1, *", made(t, pick(t, games, "{-1|-1,*} {-1|1}"), pick(t, games, "{1,*|1} {-1|1}")), games["1"], games["-1"], games["*"])
	wantMany(t, "1, 1, 1, 1", chainOf(5), games["1"], games["1"], games["1"], games["1"])
	wantMany(t, "*, *, *", ladderOf(4), games["*"], games["*"], games["*"])
	for _, c := range []struct {
		sizes []int
		good  bool
	}{
		{ints(40, 40, 20), true}, {ints(40, 20, 40), false}, {ints(20, 40, 40), false}, {ints(2, 40, 39), true}, {ints(3, 40, 39), false}, {ints(40, 39, 3), true}, {ints(40, 39, 2), true}, {ints(39, 40, 2), true}, {ints(20, 2, 80), false}, {ints(20, 80, 2), true},
		{ints(13, 100, 8), true}, {ints(13, 100, 9), true}, {ints(13, 100, 10), false}, {ints(100, 16, 6), true}, {ints(100, 16, 7), false}, {ints(120, 1, 1), true}, {ints(1, 120, 1), true}, {ints(1, 1, 120), true}, {ints(120, 1, 2), false}, {ints(41, 40, 1), false}, {ints(1, 41, 40), false},
	} {
		var l, minus []impl.Form
		nodes := 1
		for _, size := range c.sizes {
			l, minus = append(l, chainOf(size)), append(minus, minusChain(size))
			nodes += size - 1
		}
		name := fmt.Sprint("integers of ", c.sizes, " nodes")
		if !c.good {
			wantNoMany(t, name, l...)
			wantNoMany(t, "the negatives of "+name, minus...)
			continue
		}
		wantMany(t, name, chainOf(nodes), l...)
		wantMany(t, "the negatives of "+name, minusChain(nodes), minus...)
	}
}

func TestP5ManyAreSumsOneAfterAnother(t *testing.T) {
	forms := sample()
	step := 17
	good := map[bool]int{}
	for range 1500 {
		var l []impl.Form
		sum, ok := zeroGame(), true
		for range step / 16 % (mostSummed + 1) {
			step = step * 48271 % 2147483647
			f := forms[step/16%len(forms)]
			if step%5 > 0 {
				f = forms[step/16%4]
			}
			l = append(l, f)
			if ok {
				sum, ok = impl.SumForms(sum, f)
			}
		}
		step = step * 48271 % 2147483647
		good[ok]++
		if name := fmt.Sprintf("%d games by step %d", len(l), step); ok {
			wantMany(t, name, sum, l...)
		} else {
			wantNoMany(t, name, l...)
		}
	}
	if good[true] < 200 || good[false] < 200 {
		t.Error("too few lists with a sum or without", good)
	}
}

func TestP5MostElements(t *testing.T) {
	for count := range mostSummed + 1 {
		wantMany(t, fmt.Sprint(count, " times 1"), chainOf(count+1), slices.Repeat([]impl.Form{chainOf(2)}, count)...)
		wantMany(t, fmt.Sprint(count, " times 9"), chainOf(9*count+1), slices.Repeat([]impl.Form{chainOf(10)}, count)...)
		wantMany(t, fmt.Sprint(count, " times *"), ladderOf(count+1), slices.Repeat([]impl.Form{nimber(1)}, count)...)
		wantMany(t, fmt.Sprint(count, " times 0"), zeroGame(), slices.Repeat([]impl.Form{zeroGame()}, count)...)
	}
	for _, f := range []impl.Form{zeroGame(), chainOf(2), nimber(1), {}, chainOf(mostNodes + 1)} {
		for _, many := range []int{mostSummed + 1, mostSummed + 2, 24, 100, 1000000} {
			wantNoMany(t, fmt.Sprint(many, " games"), slices.Repeat([]impl.Form{f}, many)...)
		}
	}
	eleven := slices.Repeat([]impl.Form{chainOf(11)}, 11)
	wantMany(t, "11 times 10", chainOf(111), eleven...)
	wantNoMany(t, "12 times 10", append(eleven, chainOf(11))...)
	wantMany(t, "11 times 10 and 9", chainOf(mostNodes), append(eleven, chainOf(10))...)
	wantNoMany(t, "9 and 11 times 10, and 1", append(eleven, chainOf(10), chainOf(2))...)
}

func TestP5Times(t *testing.T) {
	games := named(t)
	for n := -mostSummed; n <= mostSummed; n++ {
		size := max(n, -n)
		wantTimes(t, n, games["0"], games["0"])
		wantTimes(t, n, games["1"], integer(n))
		wantTimes(t, n, games["-1"], integer(-n))
		wantTimes(t, n, integer(9), integer(9*n))
		wantTimes(t, n, games["*"], ladderOf(size+1))
		if size < mostSummed {
			wantTimes(t, n, integer(10), integer(10*n))
			wantTimes(t, n, integer(-10), integer(-10*n))
		} else {
			wantNoTimes(t, n, integer(10))
			wantNoTimes(t, n, integer(-10))
		}
	}
	for _, n := range append(extremeInts(), mostSummed+1, -mostSummed-1, mostSummed+2, -mostSummed-2, 24, -24, 1<<32, -1<<32, 1<<32+1, -1<<32-1, math.MinInt, math.MinInt+1, math.MaxInt) {
		if n >= -mostSummed && n <= mostSummed {
			continue
		}
		for _, f := range []impl.Form{games["0"], games["1"], games["-1"], games["*"], games["up"], chainOf(mostNodes), {}, chainOf(mostNodes + 1)} {
			wantNoTimes(t, n, f)
		}
	}
}

func TestP5TimesAreSumsOfCopies(t *testing.T) {
	c := newCatalog()
	good := map[bool]int{}
	for _, f := range append(append(plainForms(plainDay2()), sample()...), longest()...) {
		number := c.read(f)
		for _, side := range []int{1, -1} {
			sum, counts := c.read(zeroGame()), true
			for n := 1; n <= mostSummed; n++ {
				counts = counts && len(c.parts(sum))*len(f.Nodes) <= mostPairs
				if side < 0 && n == 1 {
					number = c.negative(number)
				}
				if counts {
					sum = c.sum(sum, number)
				}
				if counts = counts && c.fits(sum); !counts {
					wantNoTimes(t, n*side, f)
					good[false]++
					continue
				}
				good[true]++
				g, ok := impl.TimesForm(n*side, f)
				c.want(t, fmt.Sprintf("TimesForm(%d, %d nodes)", n*side, len(f.Nodes)), g, ok, sum)
			}
		}
	}
	if good[true] < 1000 || good[false] < 1000 {
		t.Error("too few multiples within the limits or beyond", good)
	}
}

func TestP5TimesNothing(t *testing.T) {
	for _, f := range longest() {
		wantTimes(t, 0, f, zeroGame())
		wantTimes(t, 1, f, f)
		wantTimes(t, -1, f, negated(t, f))
	}
	for name, bad := range invalidForms() {
		got, ok := impl.TimesForm(0, bad)
		wantNoForm(t, "TimesForm of 0 and "+name, got, ok)
	}
}

func TestP5MultiplesOfUp(t *testing.T) {
	games := named(t)
	before := zeroGame()
	for n := 1; n <= mostSummed; n++ {
		f, ok := impl.TimesForm(n, games["up"])
		if !ok || len(f.Nodes) != (n+1)*(n+2)/2 {
			t.Fatalf("%d times up has %d nodes, %v", n, len(f.Nodes), ok)
		}
		wantOrder(t, fmt.Sprint(n, " times up and one less"), f, before, impl.OutLeft)
		minus, ok := impl.TimesForm(-n, games["up"])
		wantForm(t, fmt.Sprint(-n, " times up"), minus, ok, negated(t, f))
		wantTimes(t, n, games["down"], minus)
		before = f
	}
}

func wantNothingOfSums(t *testing.T, name string, bad impl.Form) {
	t.Helper()
	f, ok := impl.NegForm(bad)
	wantNoForm(t, "NegForm of "+name, f, ok)
	for n := -mostSummed - 1; n <= mostSummed+1; n++ {
		wantNoTimes(t, n, bad)
	}
	for _, good := range []impl.Form{zeroGame(), chainOf(2), minusChain(2), nimber(1), chainOf(mostNodes), bad} {
		wantNoSum(t, name, good, bad)
		for _, pair := range [][2]impl.Form{{bad, good}, {good, bad}} {
			f, ok = impl.MinusForms(pair[0], pair[1])
			wantNoForm(t, "MinusForms with "+name, f, ok)
			wantNoOrdinal(t, name, pair[0], pair[1])
		}
		for _, l := range [][]impl.Form{{bad}, {bad, good}, {good, bad}, {good, bad, good}, {zeroGame(), good, bad}, {bad, zeroGame(), bad}} {
			wantNoMany(t, name, l...)
		}
	}
}

func TestP5InvalidForms(t *testing.T) {
	for name, bad := range invalidForms() {
		wantNothingOfSums(t, name, bad)
	}
}

func TestP5InvalidElements(t *testing.T) {
	for i := range mostSummed {
		for name, bad := range invalidForms() {
			for _, good := range []impl.Form{zeroGame(), chainOf(2), nimber(1)} {
				l := slices.Repeat([]impl.Form{good}, mostSummed)
				l[i] = bad
				wantNoMany(t, fmt.Sprintf("12 with %s at %d", name, i), l...)
				wantNoMany(t, fmt.Sprintf("some with %s at the end", name), l[:i+1]...)
			}
		}
	}
}

func TestP5NilAndEmpty(t *testing.T) {
	for _, zero := range []impl.Form{formOf(node(nil, nil)), formOf(node(ints(), ints())), formOf(node(nil, ints()))} {
		for _, one := range []impl.Form{chainOf(2), formOf(node(ints(), ints()), node(ints(0), ints()))} {
			f, ok := impl.NegForm(zero)
			wantForm(t, "NegForm of 0", f, ok, zeroGame())
			f, ok = impl.NegForm(one)
			wantForm(t, "NegForm of 1", f, ok, minusChain(2))
			wantSum(t, "0, 0", zero, zeroGame(), zeroGame())
			wantSum(t, "0, 1", zero, one, chainOf(2))
			wantSum(t, "1, 1", one, chainOf(2), chainOf(3))
			f, ok = impl.MinusForms(zero, one)
			wantForm(t, "MinusForms of 0, 1", f, ok, minusChain(2))
			wantMany(t, "0, 1, 1", chainOf(3), zero, one, one)
			wantTimes(t, -2, one, minusChain(3))
			wantTimes(t, 3, zero, zeroGame())
			wantOrdinal(t, "0 : 1", zero, one, chainOf(2))
			wantOrdinal(t, "1 : 0", one, zero, chainOf(2))
			wantOrdinal(t, "1 : 1", one, one, formOf(node(nil, nil), node(ints(0), nil), node(ints(0, 1), nil)))
		}
	}
	for _, none := range [][]impl.Form{nil, {}, make([]impl.Form, 0, 5)} {
		wantMany(t, "nothing", zeroGame(), none...)
	}
}

// resultsOfSums has what each function of the chapter returns.
func resultsOfSums(f impl.Form, g impl.Form) map[string]impl.Form {
	all := map[string]impl.Form{}
	all["NegForm"], _ = impl.NegForm(f)
	all["SumForms"], _ = impl.SumForms(f, g)
	all["SumForms in reverse"], _ = impl.SumForms(g, f)
	all["SumForms of one twice"], _ = impl.SumForms(f, f)
	all["SumForms with 0"], _ = impl.SumForms(f, zeroGame())
	all["SumForms with 0 before"], _ = impl.SumForms(zeroGame(), f)
	all["MinusForms"], _ = impl.MinusForms(f, g)
	all["MinusForms in reverse"], _ = impl.MinusForms(g, f)
	all["MinusForms of 0"], _ = impl.MinusForms(f, zeroGame())
	all["MinusForms of one twice"], _ = impl.MinusForms(f, f)
	all["SumOfMany of one"], _ = impl.SumOfMany([]impl.Form{f})
	all["SumOfMany"], _ = impl.SumOfMany([]impl.Form{f, g, f})
	all["OrdinalSum"], _ = impl.OrdinalSum(f, g)
	all["OrdinalSum in reverse"], _ = impl.OrdinalSum(g, f)
	all["OrdinalSum of one twice"], _ = impl.OrdinalSum(f, f)
	all["OrdinalSum on 0"], _ = impl.OrdinalSum(zeroGame(), f)
	all["OrdinalSum below 0"], _ = impl.OrdinalSum(f, zeroGame())
	for n := -2; n <= 3; n++ {
		all[fmt.Sprint("TimesForm ", n)], _ = impl.TimesForm(n, f)
	}
	return all
}

func TestP30SumsModifyNoArgument(t *testing.T) {
	star := nimber(1)
	for i, want := range append(plainForms(plainDay2()), sample()...) {
		f, g := withSpare(want), withSpare(star)
		results := resultsOfSums(f, g)
		for name, plain := range resultsOfSums(copied(want), copied(star)) {
			if !sameNodes(results[name], plain) {
				t.Errorf("%s of game %d reads elements behind the end of a slice", name, i)
			}
		}
		l := []impl.Form{f, g, f, {}, chainOf(mostNodes)}
		wantForms(t, "SumOfMany of a part of a list", []impl.Form{results["SumOfMany"]}, sumOf(l[:3]))
		wantSpare(t, "a function of sums", f, want)
		wantSpare(t, "a function of sums", g, star)
		if len(l[3].Nodes) != 0 || !sameNodes(l[4], chainOf(mostNodes)) {
			t.Error("SumOfMany wrote behind the end of its list")
		}
	}
}

func sumOf(l []impl.Form) impl.Form {
	f, _ := impl.SumOfMany(l)
	return f
}

func TestP30SumsShareNoMemory(t *testing.T) {
	for i, want := range append(plainForms(plainDay2()), sample()...) {
		plain := resultsOfSums(copied(want), nimber(1))
		f, g := copied(want), nimber(1)
		results := resultsOfSums(f, g)
		spoil(f)
		spoil(g)
		for name := range plain {
			if !sameNodes(results[name], plain[name]) {
				t.Errorf("%s of game %d changed with an argument", name, i)
			}
		}
		f, g = copied(want), nimber(1)
		for _, result := range resultsOfSums(f, g) {
			spoil(result)
		}
		wantForm(t, "the game after the results were changed", f, true, want)
		wantForm(t, "* after the results were changed", g, true, nimber(1))
	}
}

func TestP30ListsOfOneSumShareNoMemory(t *testing.T) {
	for i, f := range append(plainForms(plainDay2()), sample()...) {
		for name, result := range resultsOfSums(f, nimber(1)) {
			wantOwnLists(t, fmt.Sprintf("%s of game %d", name, i), result)
		}
	}
}

func TestP30SumsReturnForAll(t *testing.T) {
	forms := strangeForms()
	for i, f := range forms {
		func() {
			defer noPanic(t, fmt.Sprint(f))
			g := forms[(i*7+3)%len(forms)]
			resultsOfSums(f, g)
			for _, n := range append(extremeInts(), -12, 12, 13, -13) {
				impl.TimesForm(n, f)
			}
			impl.SumOfMany([]impl.Form{f, g})
			impl.SumOfMany([]impl.Form{g, f, f})
		}()
	}
}

func TestP30LargestSums(t *testing.T) {
	c := newCatalog()
	inTime(t, "the sums of the largest games", func() {
		for _, pair := range [][2]impl.Form{{towerOf(40), towerOf(40)}, {towerOf(mostNodes), towerOf(13)}, {tangleOf(40, mostOptions, 5), tangleOf(40, mostOptions, 6)}, {ladderOf(40), towerOf(40)}, {towerOf(mostNodes), towerOf(mostNodes)}} {
			c.wantPair(t, "large games", pair[0], pair[1])
			c.wantPair(t, "large games in reverse", pair[1], pair[0])
			for n := -mostSummed; n <= mostSummed; n++ {
				impl.TimesForm(n, pair[0])
			}
			impl.SumOfMany(slices.Repeat(pair[:], mostSummed/2))
		}
	})
}

func TestP30SumsKeepNoState(t *testing.T) {
	games := named(t)
	for range 2 {
		wantSum(t, "1, *", games["1"], games["*"], games["{1,*|1}"])
		wantNothingOfSums(t, "no game", impl.Form{})
		wantOrdinal(t, "1 : *", games["1"], games["*"], games["{0,1|1}"])
		wantTimes(t, -3, games["1"], integer(-3))
		wantNoTimes(t, 13, games["1"])
		wantMany(t, "nothing", games["0"])
		wantNoSum(t, "too many pairs", chainOf(41), chainOf(40))
		wantMany(t, "*, *", games["{*|*}"], games["*"], games["*"])
	}
}
