package tests

import (
	"fmt"
	"math/big"
	"slices"
	"strings"
	"testing"

	"loop.example/g00868/impl"
)

// An arbiter has the stops of the games of a referee by the document's words, with numbers of any size.
type arbiter struct {
	*referee
	worths map[int]*big.Rat
	stops  map[[2]int]*big.Rat
}

func newArbiter() *arbiter {
	r := &referee{catalog: newCatalog(), least: map[[2]int]bool{}, canons: map[int]int{}}
	return &arbiter{referee: r, worths: map[int]*big.Rat{}, stops: map[[2]int]*big.Rat{}}
}

// worth is nil for a game that is equal to no number.
func (a *arbiter) worth(game int) *big.Rat {
	worth, found := a.worths[game]
	if !found {
		worth = a.worthOf(a.games[a.canon(game)])
		a.worths[game] = worth
	}
	return worth
}

// worthOf takes a canonical game for the one number whose game in chapter 7 may have these options.
func (a *arbiter) worthOf(lists [2][]int) *big.Rat {
	var ends [2]*big.Rat
	for side, options := range lists {
		if len(options) > 1 {
			return nil
		}
		for _, option := range options {
			if ends[side] = a.worth(option); ends[side] == nil {
				return nil
			}
		}
	}
	one := big.NewRat(1, 1)
	switch {
	case ends[0] == nil && ends[1] == nil:
		return new(big.Rat)
	case ends[1] == nil:
		return new(big.Rat).Add(ends[0], one)
	case ends[0] == nil:
		return new(big.Rat).Sub(ends[1], one)
	}
	d := new(big.Rat).Add(ends[0], ends[1])
	d.Mul(d, big.NewRat(1, 2))
	step := new(big.Rat).SetFrac(big.NewInt(1), d.Denom())
	if d.IsInt() || new(big.Rat).Sub(d, step).Cmp(ends[0]) != 0 || new(big.Rat).Add(d, step).Cmp(ends[1]) != 0 {
		return nil
	}
	return d
}

// stop is the left stop for side 0 and the right stop for side 1.
func (a *arbiter) stop(game int, side int) *big.Rat {
	if worth := a.worth(game); worth != nil {
		return worth
	}
	key := [2]int{game, side}
	if stop, found := a.stops[key]; found {
		return stop
	}
	var stops []*big.Rat
	for _, option := range a.games[game][side] {
		stops = append(stops, a.stop(option, 1-side))
	}
	slices.SortFunc(stops, (*big.Rat).Cmp)
	if side == 0 {
		slices.Reverse(stops)
	}
	a.stops[key] = stops[0]
	return stops[0]
}

func (a *arbiter) fails(game int) bool {
	return slices.ContainsFunc(a.parts(game), func(part int) bool {
		worth := a.worth(part)
		if worth == nil {
			return false
		}
		_, valid := dyadicOf(worth)
		return !valid
	})
}

// lineOf goes through the nodes of f, because the numbers of a catalog are not in the order of options.
func (a *arbiter) lineOf(f impl.Form, side int) []int {
	at := len(f.Nodes) - 1
	game := func(node int) int { return a.read(impl.Form{Nodes: f.Nodes[:node+1]}) }
	var line []int
	for a.worth(game(at)) == nil {
		options := [][]int{f.Nodes[at].Left, f.Nodes[at].Right}[side]
		want := a.stop(game(at), side)
		place := slices.IndexFunc(options, func(option int) bool { return a.stop(game(option), 1-side).Cmp(want) == 0 })
		line = append(line, place)
		at, side = options[place], 1-side
	}
	return line
}

// spelled makes a game as it is written, of which said would return the canonical form.
func spelled(t *testing.T, s string) impl.Form {
	t.Helper()
	if !strings.HasPrefix(s, "{") {
		return said(t, s)
	}
	var lists [2][]impl.Form
	side, from, open := 0, 1, 0
	for i, c := range s {
		if c == '{' {
			open++
		}
		if open == 1 && strings.ContainsRune(",|}", c) {
			if i > from {
				lists[side] = append(lists[side], spelled(t, s[from:i]))
			}
			from = i + 1
		}
		if open == 1 && c == '|' {
			side++
		}
		if c == '}' {
			open--
		}
	}
	if from != len(s) {
		t.Fatalf("%q is not a game", s)
	}
	return made(t, lists[0], lists[1])
}

func wantNear(t *testing.T, name string, f impl.Form, d impl.Dyadic, want bool) {
	t.Helper()
	is, ok := impl.IsNear(f, d)
	wantBool(t, fmt.Sprintf("IsNear of %s and %v", name, d), is, ok, want)
}

func wantNoNear(t *testing.T, name string, f impl.Form, d impl.Dyadic) {
	t.Helper()
	is, ok := impl.IsNear(f, d)
	wantNoBool(t, fmt.Sprintf("IsNear of %s and %v", name, d), is, ok)
}

// wantStops checks all functions of stops but the lines.
func wantStops(t *testing.T, name string, f impl.Form, left impl.Dyadic, right impl.Dyadic) {
	t.Helper()
	d, ok := impl.LeftStop(f)
	wantDyadic(t, "LeftStop of "+name, d, ok, left)
	d, ok = impl.RightStop(f)
	wantDyadic(t, "RightStop of "+name, d, ok, right)
	hot, ok := impl.IsHot(f)
	wantBool(t, "IsHot "+name, hot, ok, valueOf(left).Cmp(valueOf(right)) > 0)
	d, ok = impl.NearOf(f)
	if left == right {
		wantDyadic(t, "NearOf "+name, d, ok, left)
	} else {
		wantNoDyadic(t, "NearOf "+name, d, ok)
	}
	wantNear(t, name, f, left, left == right)
	wantNear(t, name, f, right, left == right)
	wantNear(t, name, f, impl.Dyadic{}, left == impl.Dyadic{} && right == impl.Dyadic{})
}

func wantLine(t *testing.T, name string, f impl.Form, left bool, want ...int) {
	t.Helper()
	line, ok := impl.StopLine(f, left)
	wantInts(t, fmt.Sprintf("StopLine of %s, Left first: %v,", name, left), line, ok, want...)
}

func wantNoStops(t *testing.T, name string, f impl.Form) {
	t.Helper()
	d, ok := impl.LeftStop(f)
	wantNoDyadic(t, "LeftStop of "+name, d, ok)
	d, ok = impl.RightStop(f)
	wantNoDyadic(t, "RightStop of "+name, d, ok)
	hot, ok := impl.IsHot(f)
	wantNoBool(t, "IsHot "+name, hot, ok)
	d, ok = impl.NearOf(f)
	wantNoDyadic(t, "NearOf "+name, d, ok)
	for _, d := range []impl.Dyadic{{}, dyadic(1, 0), dyadic(-1, 16), dyadic(1000000, 0), dyadic(2, 1), dyadic(1, 17)} {
		wantNoNear(t, name, f, d)
	}
	for _, left := range []bool{true, false} {
		line, ok := impl.StopLine(f, left)
		wantNoInts(t, fmt.Sprintf("StopLine of %s, Left first: %v,", name, left), line, ok)
	}
}

// stopsOf is for games that have stops.
func stopsOf(t *testing.T, f impl.Form) (*big.Rat, *big.Rat) {
	t.Helper()
	left, ok := impl.LeftStop(f)
	right, fine := impl.RightStop(f)
	if !ok || !fine {
		t.Fatalf("a game of %d nodes has no stops", len(f.Nodes))
	}
	return valueOf(left), valueOf(right)
}

// wantAllOfStops checks all functions by the document's words, and counts what games there are.
func (a *arbiter) wantAllOfStops(t *testing.T, name string, f impl.Form, counts map[string]int) {
	t.Helper()
	game := a.read(f)
	counts["all"]++
	if a.fails(game) {
		wantNoStops(t, name, f)
		counts["none"]++
		return
	}
	left, _ := dyadicOf(a.stop(game, 0))
	right, _ := dyadicOf(a.stop(game, 1))
	wantStops(t, name, f, left, right)
	for side, first := range []bool{true, false} {
		want := a.lineOf(f, side)
		wantLine(t, name, f, first, want...)
		counts["late"] += min(1, len(want)/2)
	}
	switch {
	case a.worth(game) == nil && left != right:
		counts["hot"]++
	case a.worth(game) == nil:
		counts["near"]++
	case a.canon(game) != game:
		counts["disguised"]++
	}
}

func TestP10ExamplesOfTheDocument(t *testing.T) {
	t.Parallel()
	f := said(t, "{3|~1}")
	wantStops(t, "{3|~1}", f, dyadic(3, 0), dyadic(1, 0))
	wantLine(t, "{3|~1}", f, false, 0, 0)
	wantLine(t, "{3|~1}", f, true, 0)
	wantStops(t, "the negative of {3|~1}", negated(t, f), dyadic(-1, 0), dyadic(-3, 0))
	wantLine(t, "the negative of {3|~1}", negated(t, f), true, 0, 0)
	wantLine(t, "the negative of {3|~1}", negated(t, f), false, 0)
}

// wantKnownStops reads games for the pairs of their left and right stops.
func wantKnownStops(t *testing.T, table map[string]string) {
	t.Helper()
	a, counts := newArbiter(), map[string]int{}
	for stops, games := range table {
		ends := numbers(t, stops)
		for _, game := range strings.Fields(games) {
			f := spelled(t, game)
			wantStops(t, game, f, ends[0], ends[1])
			wantStops(t, "the negative of "+game, negated(t, f), minus(ends[1]), minus(ends[0]))
			a.wantAllOfStops(t, game, f, counts)
			a.wantAllOfStops(t, "the negative of "+game, negated(t, f), counts)
		}
	}
}

func TestP10StopsOfNumbers(t *testing.T) {
	t.Parallel()
	for _, d := range append(smallDyadics(5, 5), numbers(t, "119 -119 118 1/65536 -1/65536 999999/65536 -999999/65536 860161/8192 -237/2 235/2")...) {
		f, ok := impl.NumberForm(d)
		if !ok {
			wantNoStops(t, fmt.Sprint("no game of ", d), f)
			continue
		}
		wantStops(t, fmt.Sprint("the game of ", d), f, d, d)
		wantLine(t, fmt.Sprint("the game of ", d), f, true)
		wantLine(t, fmt.Sprint("the game of ", d), f, false)
	}
}

func TestP10KnownHotGames(t *testing.T) {
	t.Parallel()
	wantKnownStops(t, map[string]string{
		// Options that are numbers.
		"1 -1": "~1 {0,1|-1} {1|0,-1} {0,1,-1|0,1,-1} {1,{0|2}|-1}",
		"1 0":  "{1|0} {1,1/2,0|0,1/2,1} {1|0,*}",
		"2 -3": "{2|-3} {2,-3|-3,2} {{1|}|{|-2}}",
		// Negative numbers and fractions.
		"-1 -2":               "{-1|-2} {-1,-3/2|-2} {-1*|-2v}",
		"1/2 -1/2":            "~1/2 {1/2|{-1|0}} {{0|1}|-1/2}",
		"-1/4 -3/4":           "{-1/4|-3/4} {-1/4*|-3/4} {-1/4,-3/4|-3/4,-1/4}",
		"0 -3/2":              "{0|-3/2} {*|-3/2} {^|-3/2*} {0,v|-3/2}",
		"1/65536 0":           "{1/65536|0} {1/65536*|*}",
		"999999/65536 1/8192": "{999999/65536|1/8192}",
		"-1/65536 -1/32768":   "{-1/65536|-1/32768}",
		"5/2 7/4":             "{5/2|7/4} {5/2,{5|-5}|7/4,{7|-7}}",
		// Options that are not numbers, on one side and on both.
		"3 1":   "{3|~1} {3|{1|0}} {3,{9|3}|{1|-9},2} {3|1*} {3^|{1*|*}}",
		"4 2":   "{4|{2|0}} {4,*|{2|0},3} {4|{2|{2|-9}}} {4|{2|{1|-9}}}",
		"1 -2":  "{{9|1}|-2} {{9|1}|{-2|-9}} {{{9|5}|{1|0}}|-2} {{{9|8}|{1|-5}}|{{5|-2}|{-3|-9}}}",
		"0 -1":  "{^|-1} {{1|0}|-1} {{1|*}|{-1|-2}} {{{1|0}|0}|-1} {*|-1*} {*2,^3|-1} {0,{0|-1}|-1} {0,~1|-1,~2}",
		"2 -1":  "{2,{5|0}|-1} {2,{2|0}|-1} {2,~3|-1} {2,~3|-1,{0|-2}} {{4|2},{3|2}|-1,{-1|-3}}",
		"1/2 0": "{{1|1/2}|0} {1/2*|{0|-1}} {{3|1/2},{2|1/4}|{0|-7}}",
	})
}

// The stops of these are the same, although they are equal to no number.
func TestP10KnownGamesNearNumbers(t *testing.T) {
	t.Parallel()
	wantKnownStops(t, map[string]string{
		"0 0":             "* *2 *3 *15 ^ v ^* v* ^2 ^3*2 v12*15 {0|^} {v|0} {0|{0|-1}} {0|{0|-7/2}} {0|{0|{0|-1}}} {{1|0}|0} {{2|0}|0} {{1|0}|{*|-1}} {{9|0},0|{0|-9}} {{3|*}|{0|-3}} {0|0} {{-1|}|{|1}} {0,-1|0,1} {0,*|*} {^|v} {^|0} {*,^|v,*2}",
		"1 1":             "1* 1*7 1^ 1v2*3 {1|1} {1,0|1,2} {1*|1} {1|{1|0}} {{2|1}|1} {1|{1|-9}} {0,1|1} {1,1*|1,1*}",
		"-1 -1":           "-1* -1^ -1v12 {-1|-1} {-1|-1*} {-1|{-1|-2}} {{0|-1}|-1} {-1,-2|-1,0}",
		"1/2 1/2":         "1/2* 1/2v {1/2|1/2} {1/2|{1/2|1/4}} {{1|1/2}|1/2} {1/2,1/2*|1/2}",
		"-3/4 -3/4":       "-3/4*5 -3/4^2* {-3/4|-3/4} {-3/4|{-3/4|-1}}",
		"1/65536 1/65536": "1/65536* 1/65536^ {1/65536|1/65536}",
		"7 7":             "7* 7^ {7|7} {7|{7|-7}} {{9|7}|7}",
		"59 59":           "59* {59|59}",
	})
	for _, d := range numbers(t, "1 1/2 2 7 1/65536 39 116") {
		f, ok := impl.TinyForm(numberForm(t, d))
		if !ok {
			t.Fatal("no tiny of", d)
		}
		for _, small := range []impl.Form{zeroGame(), nimber(1), nimber(2), short(t, "^"), short(t, "v")} {
			if g, ok := impl.SumForms(f, small); ok {
				wantStops(t, fmt.Sprint("a tiny of ", d), g, impl.Dyadic{}, impl.Dyadic{})
				wantStops(t, fmt.Sprint("a miny of ", d), negated(t, g), impl.Dyadic{}, impl.Dyadic{})
			}
		}
		wantLine(t, fmt.Sprint("the tiny of ", d), f, true, 0)
		wantLine(t, fmt.Sprint("the tiny of ", d), f, false, 0, 0)
		for _, x := range numbers(t, "1 -1/2 2") {
			if g, ok := impl.SumForms(f, numberForm(t, x)); ok {
				wantStops(t, fmt.Sprintf("%v and a tiny of %v", x, d), g, x, x)
				wantStops(t, fmt.Sprintf("%v and a miny of %v", minus(x), d), negated(t, g), minus(x), minus(x))
			}
		}
	}
}

// Play ends in these at once, whatever the options are.
func TestP10NumbersThatAreNotCanonical(t *testing.T) {
	t.Parallel()
	l := newLine()
	for value, games := range map[string]string{
		"0":    "{-1|1} {-2|3} {-1|} {|1} {*|*} {*|} {|*} {v|^} {~1|~1} {~1|~2} {{2|0}|~1} {{-1|-2}|{2|1}} {{1|0}|{0|-1}} {-1,*|1,*} {{0|-1}|{1|0}} {{0|-2}|{2|0}} {{1|0}|{0|-1}} {-1,{0|-9}|{9|0},1}",
		"1":    "{0,-1|} {0|2} {0,*|} {{2|1}|} {1*|} {{2|1}|{2|1}} {0|{1|0}} {0|{2|-1}} {^|} {0,~1|3} {{*|*}|} {{-1|1}|} {{-1|1}|{2|3}} {0|{2|1/2}}",
		"-1":   "{|0,1} {-2|0} {{0|-1}|0} {|v} {|{-1|-2}} {-1v|-1/2,-1/2^} {|{{-1|}|{|1}},0}",
		"2":    "{0,1|} {1,{9|0}|} {1|{2|2}} {{3|2}|5} {{0|2}|}",
		"1/2":  "{0|1,2} {0,-1|1} {0,*|1} {^|1} {0|1,{2|0}} {{1|1/2}|{1/2|0}} {{{1|0}|{0|-1}}|1} {{-1|}|1} {{9|1/4}|{3/4|-9}}",
		"-3/4": "{-1|-1/2,0} {-1,-1*|-1/2} {-1,-2|{-1/2|-9},-1/2}",
		"7":    "{6,5,4,3|} {6|8} {{9|7}|{7|5}} {{9|7}|{8|5}}",
	} {
		for _, game := range strings.Fields(games) {
			f, d := spelled(t, game), numbers(t, value)[0]
			if canon := canonOf(t, f); sameNodes(canon, f) || l.canon(l.read(f)) != l.number(d) {
				t.Errorf("%s is canonical, or not %s", game, value)
			}
			for i, g := range []impl.Form{f, negated(t, f)} {
				x := []impl.Dyadic{d, minus(d)}[i]
				name := fmt.Sprintf("%s (%d)", game, i)
				wantStops(t, name, g, x, x)
				wantLine(t, name, g, true)
				wantLine(t, name, g, false)
			}
		}
	}
}

func TestP10NumbersOnTheWay(t *testing.T) {
	t.Parallel()
	wantKnownStops(t, map[string]string{
		"0 -2":    "{{-1|1}|-2} {{*|}|-2} {{|1}|{-2*|-2*}} {{v|^}|-2} {{~1|~1}|{-2|-3,{-2|-9}}} {{{1|0}|{0|-1}}|-2} {{9|{-1|1}}|{{-2*|-2*}|-9}}",
		"1 1/2":   "{{0|2}|{0,*|1}} {{0,*|}|{0|1,2}} {{3|{^|}}|{{0|1,{2|0}}|-3}}",
		"0 0":     "{{-1|1}|{*|*}} {{*|}|{|*}} {{{*|*}|{*|*}},-1|0} {{-1|1}|{{-1|1}|-1}} {{~1|~1}|{v|^}}",
		"3 2":     "{3|{0,1|}} {{2,1|}|{1|{2|2}}} {{2|{3|2}},{7|-7}|{1,{9|0}|}}",
		"-1 -1":   "{{|0,1}|{-2|0}} {{{0|-1}|0}|{|v}}",
		"1/2 -1":  "{{0|1,2}|{-2|0}} {{{1|1/2}|{1/2|0}}|-1}",
		"-3/4 -7": "{{-1|-1/2,0}|{|-6,-5}}",
	})
}

// wantLines has pairs of lines, Left's before Right's.
func wantLines(t *testing.T, table map[string][2][]int) {
	t.Helper()
	a, counts := newArbiter(), map[string]int{}
	for game, lines := range table {
		f := spelled(t, game)
		wantLine(t, game, f, true, lines[0]...)
		wantLine(t, game, f, false, lines[1]...)
		a.wantAllOfStops(t, game, f, counts)
		a.wantAllOfStops(t, "the negative of "+game, negated(t, f), counts)
	}
}

func TestP10KnownLines(t *testing.T) {
	t.Parallel()
	wantLines(t, map[string][2][]int{
		// Numbers, in their canonical form and in others.
		"0": {nil, nil}, "-3/4": {nil, nil}, "119": {nil, nil}, "{-1|1}": {nil, nil}, "{*|*}": {nil, nil}, "{~1|~1}": {nil, nil}, "{0,1|}": {nil, nil}, "{{1|0}|{0|-1}}": {nil, nil},
		// One option at each position.
		"*": {ints(0), ints(0)}, "~1": {ints(0), ints(0)}, "{-1/2|-3/4}": {ints(0), ints(0)}, "^": {ints(0), ints(0, 0)}, "v": {ints(0, 0), ints(0)}, "{0|{0|-1}}": {ints(0), ints(0, 0)}, "{{1|0}|0}": {ints(0, 0), ints(0)},
		"{3|~1}": {ints(0), ints(0, 0)}, "{{9|1}|{-1|-9}}": {ints(0, 0), ints(0, 0)}, "{{9|{1|-9}}|-8}": {ints(0, 0, 0), ints(0)}, "{8|{{9|{0|-9}}|-8}}": {ints(0), ints(0, 0, 0, 0)}, "^2": {ints(0), ints(0, 0)}, "^3": {ints(0), ints(0, 0)},
		// One option has the stop, and it is the first, the last or between others.
		"{1,0|-1}": {ints(1), ints(0)}, "{1,0,-1|0,-1,1}": {ints(2), ints(1)}, "{0,3,-2|0,-3,2}": {ints(2), ints(2)}, "{0,2,-3|0,-2,3}": {ints(1), ints(1)}, "{1,2,-2|-1}": {ints(2), ints(0)}, "{1/2,-1/2,0|-1,-3/4,0}": {ints(1), ints(1)}, "{2,~5|1/2,{5|-5}}": {ints(0), ints(0)},
		// The first of several options that have the same stop.
		"{0,*|-1}": {ints(0), ints(0)}, "{*,*2|-1}": {ints(0, 0), ints(0)}, "{1,1*,1^|0,*,v}": {ints(0), ints(0)}, "{1*,1^,0|-1,-1*}": {ints(1, 0), ints(0)}, "{-1,0,*,^|-2}": {ints(0), ints(0)}, "{1,0,1*|2,0,0*,*2}": {ints(1), ints(0)},
		"*3": {ints(0), ints(0)}, "^*": {ints(0), ints(0)}, "{0,*|*,*2}": {ints(0), ints(0, 0)}, "{*2,*3|-1*2,-1*}": {ints(0, 0), ints(0, 0)}, "{{2|1},1|1,{1|0}}": {ints(0), ints(0)}, "{{3|1},{2|1},0|0,{0|-2},{0|-3}}": {ints(1, 0), ints(0)},
		// Dominated and reversible options count.
		"{-1,0|0}": {ints(0), ints(0)}, "{-1,0|-1,1,0}": {ints(0), ints(1)}, "{-1,*|*,1}": {nil, nil}, "{0,*,-1|0,*}": {ints(0), ints(0)}, "{^|v}": {ints(0, 0, 0), ints(0, 0, 0)}, "{-1,^|-1,1}": {ints(1, 0, 0), ints(0)},
		// Options whose stop is better if the other player does not move.
		"{1,{3|0}|-1}": {ints(0), ints(0)}, "{{1|0},1*|-1}": {ints(1, 0), ints(0)}, "{1|{0|-1},-1*}": {ints(0), ints(1, 0)}, "{{1|0},{2|1/2}|{1/2|-2},{0|-1}}": {ints(1, 0), ints(0, 0)}, "{{9|-9},0|{9|-9},-1}": {ints(0), ints(0)}, "{{2|-2},{3|-3},*|-1}": {ints(0, 0), ints(0)},
		"{{9|8},{9|1}|{1|-9},{-8|-9}}": {ints(1, 0), ints(1, 0)}, "{{2|0},{1|0},*|-1}": {ints(0, 0), ints(0)}, "{0,{0|-1}|{1|0},0}": {ints(0), ints(0)},
		// Play ends at the first number on the way.
		"{{-1|1}|-2}": {ints(0), ints(0)}, "{3|{0,1|}}": {ints(0), ints(0)}, "{{9|{-1|1}}|-8}": {ints(0, 0), ints(0)}, "{{*|*}|{*|}}": {ints(0), ints(0)}, "{{~1|~1}|{{1|0}|{0|-1}}}": {ints(0), ints(0)}, "{0,{0|2}|*,{*|}}": {ints(1), ints(0, 0)},
	})
}

// The only option at each position but the last one leads on, and no game is born later.
func TestP10LongestLines(t *testing.T) {
	t.Parallel()
	// All of these are near 0, because the other player may always move there.
	f := nimber(1)
	for moves := 1; moves < mostNodes; moves++ {
		name := fmt.Sprint("a game of ", moves, " moves")
		left := moves%2 == 1
		wantStops(t, name, f, impl.Dyadic{}, impl.Dyadic{})
		wantLine(t, name, f, left, slices.Repeat(ints(0), moves)...)
		wantLine(t, name, f, !left, 0)
		wantLine(t, "the negative of "+name, negated(t, f), !left, slices.Repeat(ints(0), moves)...)
		if moves == mostNodes-1 {
			break
		}
		if left {
			f = made(t, []impl.Form{zeroGame()}, []impl.Form{f})
		} else {
			f = made(t, []impl.Form{f}, []impl.Form{zeroGame()})
		}
	}
	if len(f.Nodes) != mostNodes {
		t.Errorf("the longest game has %d nodes", len(f.Nodes))
	}
	// The next player would rather have moved from 1 or -1.
	f = zeroGame()
	one := impl.Form{}
	for moves := 1; moves <= mostNodes-3; moves++ {
		name := fmt.Sprint("a hot game of ", moves, " moves")
		if moves%2 == 1 {
			f, one = made(t, []impl.Form{integer(1)}, []impl.Form{f}), integer(1)
			wantStops(t, name, f, dyadic(1, 0), impl.Dyadic{})
		} else {
			f, one = made(t, []impl.Form{f}, []impl.Form{integer(-1)}), integer(-1)
			wantStops(t, name, f, impl.Dyadic{}, dyadic(-1, 0))
		}
		wantLine(t, name, f, moves%2 == 0, slices.Repeat(ints(0), moves)...)
		wantLine(t, name, f, moves%2 == 1, 0)
		wantForm(t, "the end of "+name, partAfter(t, f, moves%2 == 1, 0), true, one)
	}
	if len(f.Nodes) != mostNodes {
		t.Errorf("the longest hot game has %d nodes", len(f.Nodes))
	}
}

// partAfter plays the moves of a line.
func partAfter(t *testing.T, f impl.Form, left bool, line ...int) impl.Form {
	t.Helper()
	for _, place := range line {
		lefts, rights, ok := impl.OptionsOf(f)
		if !left {
			lefts = rights
		}
		if !ok || place < 0 || place >= len(lefts) {
			t.Fatalf("no option %d of %d", place, len(lefts))
		}
		f, left = lefts[place], !left
	}
	return f
}

// wantConsistent checks the stops and lines of a game against those of its options.
func wantConsistent(t *testing.T, name string, f impl.Form) {
	t.Helper()
	if d, is := impl.NumberOf(f); is {
		wantStops(t, name, f, d, d)
		wantLine(t, name, f, true)
		wantLine(t, name, f, false)
		return
	}
	left, right := stopsOf(t, f)
	lefts, rights, _ := impl.OptionsOf(f)
	for side, options := range [][]impl.Form{lefts, rights} {
		stop, first := []*big.Rat{left, right}[side], -1
		for i, option := range options {
			l, r := stopsOf(t, option)
			order := []*big.Rat{r, l}[side].Cmp(stop)
			if order == 1-2*side {
				t.Errorf("option %d of %s on side %d has a better stop", i, name, side)
			}
			if order == 0 && first < 0 {
				first = i
			}
		}
		wantRest(t, name, f, side == 0, first)
	}
	a, _ := dyadicOf(left)
	b, _ := dyadicOf(right)
	wantStops(t, name, f, a, b)
}

// wantRest checks that a line goes on as the one of its first option does.
func wantRest(t *testing.T, name string, f impl.Form, left bool, first int) {
	t.Helper()
	if first < 0 {
		t.Errorf("no option of %s has its stop, Left first: %v", name, left)
		return
	}
	rest, ok := impl.StopLine(partAfter(t, f, left, first), !left)
	if !ok {
		t.Errorf("StopLine fails after the first move of %s", name)
	}
	wantLine(t, name, f, left, append(ints(first), rest...)...)
}

func TestP10EveryGameOfDay2(t *testing.T) {
	t.Parallel()
	a, counts := newArbiter(), map[string]int{}
	for i, f := range plainForms(plainDay2()) {
		a.wantAllOfStops(t, fmt.Sprint("game ", i), f, counts)
		wantConsistent(t, fmt.Sprint("game ", i), f)
	}
	if counts["hot"] < 40 || counts["near"] < 30 || counts["disguised"] < 40 || counts["late"] < 40 || counts["none"] > 0 {
		t.Error("too few games of a kind", counts)
	}
}

func TestP10MixedGames(t *testing.T) {
	t.Parallel()
	a, counts := newArbiter(), map[string]int{}
	for i, f := range append(append(sample(), crowded(t, 400)...), smalls(t, 200)...) {
		a.wantAllOfStops(t, fmt.Sprint("mixed game ", i), f, counts)
	}
	for nodes := 3; nodes <= 30; nodes++ {
		for i, f := range tangles(nodes, 10) {
			a.wantAllOfStops(t, fmt.Sprintf("tangle %d of %d nodes", i, nodes), f, counts)
		}
	}
	if counts["hot"] < 100 || counts["near"] < 100 || counts["disguised"] < 100 || counts["late"] < 200 || counts["none"] > 0 {
		t.Error("too few games of a kind", counts)
	}
}

// fractional has options from games around many numbers, so that stops are fractions of either sign.
func fractional(t *testing.T, count int) []impl.Form {
	t.Helper()
	var pool []impl.Form
	for _, s := range strings.Fields("0 1 -1 1/2 -1/2 3/4 -5/8 2 -7/4 1/16 * 1* -1/2* 1/2^ v {1|1/4} {-1/2|-3/2} ~1/2 ~1 {{1|1/4}|-1/8} {1/2|{-1/4|-1}} {0|2} {-1|1} {~1|~1}") {
		pool = append(pool, spelled(t, s))
	}
	var l []impl.Form
	for step := 5; len(l) < count; {
		var lists [2][]impl.Form
		for side := range lists {
			step = step * 48271 % 2147483647
			for range 1 + step/64%3 {
				step = step * 48271 % 2147483647
				lists[side] = append(lists[side], pool[step/64%len(pool)])
			}
		}
		for side := range lists {
			if f, ok := impl.MakeForm(lists[side], lists[1-side]); ok && len(f.Nodes) <= 40 {
				l, pool = append(l, f), append(pool, f)
			}
		}
	}
	return l
}

func TestP10StopsThatAreFractions(t *testing.T) {
	t.Parallel()
	a, counts, kinds := newArbiter(), map[string]int{}, map[string]int{}
	for i, f := range fractional(t, 500) {
		name := fmt.Sprint("fractional game ", i)
		a.wantAllOfStops(t, name, f, counts)
		wantConsistent(t, name, f)
		left, right := stopsOf(t, f)
		for _, stop := range []*big.Rat{left, right} {
			kinds[fmt.Sprintf("%d, whole: %v", stop.Sign(), stop.IsInt())]++
		}
	}
	if counts["hot"] < 100 || counts["near"] < 40 || counts["disguised"] < 100 || counts["late"] < 80 {
		t.Error("too few games of a kind", counts)
	}
	for _, kind := range []string{"-1, whole: false", "-1, whole: true", "0, whole: true", "1, whole: false", "1, whole: true"} {
		if kinds[kind] < 40 {
			t.Error("too few stops of a kind", kinds)
		}
	}
}

func TestP10NearNumbers(t *testing.T) {
	t.Parallel()
	others := numbers(t, "0 1 -1 2 -2 1/2 -1/2 3/2 1/65536 -1/65536 65537/65536 65535/65536 119 -119 120 -120 1000000 -1000000 999999/2 -999999/65536")
	for game, near := range map[string]string{
		"0": "0", "1": "1", "-2": "-2", "1/2": "1/2", "1/65536": "1/65536", "-1/65536": "-1/65536", "119": "119", "-119": "-119", "{-1|1}": "0", "{0|2}": "1", "{{2|1}|}": "1", "{|{-2|-9},0}": "-2",
		"*": "0", "*9": "0", "^": "0", "v12*": "0", "{0|{0|-1}}": "0", "{{1|0}|0}": "0", "{{1|0}|{*|-1}}": "0", "1*": "1", "2*": "2", "-1^3": "-1", "-2v": "-2", "1/2*4": "1/2", "1/65536*": "1/65536", "{1|{1|0}}": "1", "{-1/2|-1/2}": "-1/2", "{59|59}": "59",
		// Hot games are near no number, also not near their stops, what is between them, or 0.
		"~1": "", "{1|0}": "", "{0|-1}": "", "{2|1}": "", "{-1|-2}": "", "{1/2|-1/2}": "", "{3|~1}": "", "{1/65536|0}": "", "{0|-1/65536}": "", "{{9|1}|{-1|-9}}": "", "{2|-110}": "",
	} {
		f := spelled(t, game)
		for _, d := range others {
			text, _ := impl.DyadicText(d)
			wantNear(t, game, f, d, text == near)
		}
		if near != "" {
			wantNear(t, game, f, numbers(t, near)[0], true)
		}
		for _, d := range invalidDyadics() {
			wantNoNear(t, game, f, d)
		}
	}
}

// invalidNumbers has games that are equal to numbers which are not valid.
func invalidNumbers(t *testing.T) map[string]impl.Form {
	t.Helper()
	least := numberForm(t, dyadic(1, 16))
	all := map[string]impl.Form{"1/2^17": made(t, []impl.Form{zeroGame()}, []impl.Form{least})}
	for name, ends := range map[string]string{
		"3/2^17": "1/65536 1/32768", "1 - 1/2^17": "65535/65536 1", "15 + 1/2^17": "15 983041/65536", "16 + 1/2^16": "16 524289/32768", "31 + 1/2^15": "31 507905/16384", "62 + 1/2^14": "62 507905/8192",
	} {
		d := numbers(t, ends)
		all[name] = gap(t, &d[0], &d[1])
	}
	half := all["1/2^17"]
	all["{-1,0|1/2^16}"] = made(t, chains(1, 1), []impl.Form{least, integer(1)})
	all["{0,*|1/2^16}"] = made(t, []impl.Form{zeroGame(), nimber(1)}, []impl.Form{least, integer(2)})
	all["{{-1|1}|1/2^16}"] = made(t, []impl.Form{short(t, "{-1|1}")}, []impl.Form{least})
	all["{{1|1/2^17}|{1/2^17|0}}"] = made(t, []impl.Form{made(t, []impl.Form{integer(1)}, []impl.Form{half})}, []impl.Form{made(t, []impl.Form{half}, []impl.Form{zeroGame()})})
	all["{{1|1/2^17}|1/2^16}"] = made(t, []impl.Form{made(t, []impl.Form{integer(1)}, []impl.Form{half})}, []impl.Form{least})
	return all
}

// holding has games with f as a subposition, which is above -1 and below 63.
func holding(t *testing.T, f impl.Form) map[string]impl.Form {
	t.Helper()
	l := func(forms ...impl.Form) []impl.Form { return forms }
	low, high := integer(-1), integer(63)
	hot, over := made(t, l(f), l(low)), made(t, l(f), nil)
	deep := f
	for range 5 {
		deep = made(t, l(high), l(made(t, l(deep), l(low))))
	}
	return map[string]impl.Form{
		"at the root": f,
		// On a line of play.
		"as a stop": hot, "as the other stop": made(t, l(high), l(f)), "as both stops": made(t, l(f), l(f)), "after two moves": made(t, l(high), l(hot)), "after two moves from the left": made(t, l(made(t, l(high), l(f))), l(low)), "deep inside": deep,
		"after three moves": made(t, l(made(t, l(high), l(hot))), l(low)), "after a switch on both sides": made(t, l(made(t, l(high), l(f))), l(hot)),
		// Beside the lines of play.
		"beside a better option": made(t, l(high, f), l(low)), "beside a better option of Right": made(t, l(high), l(low, f)), "as a threat": made(t, l(made(t, l(f), l(low))), l(integer(-2))), "behind a threat": made(t, l(high, made(t, l(hot), l(low))), l(low)),
		"behind a reversible option": made(t, l(zeroGame(), made(t, l(hot), l(zeroGame()))), l(nimber(1))),
		// In games that are equal to numbers, with which play ends.
		"in a number": over, "on both sides of a number": made(t, l(low, hot), l(over)), "in a number of value 0": made(t, l(low), l(over)), "in a number that is a stop": made(t, l(made(t, l(low), l(over))), l(integer(-2))),
		"in a number beside a better option": made(t, l(high, made(t, l(low), l(over))), l(low)), "deep inside a number": made(t, l(low), l(made(t, l(deep, integer(2)), nil))),
	}
}

func TestP10NumbersThatAreNotValid(t *testing.T) {
	t.Parallel()
	for name, f := range invalidNumbers(t) {
		_, is := impl.NumberOf(f)
		wantBool(t, "NumberOf "+name, is, true, false)
		for place, g := range holding(t, f) {
			wantNoStops(t, name+" "+place, g)
			wantNoStops(t, "the negative of "+name+" "+place, negated(t, g))
		}
	}
	// With valid numbers at the same places there are stops.
	a, counts := newArbiter(), map[string]int{}
	for _, s := range strings.Fields("0 1/65536 {-1,0|1/32768} {0|1/32768} 999999/65536 30 {62|} {0|1} * {1/65536|0} {{1|1/65536}|{1/65536|0}}") {
		for place, g := range holding(t, spelled(t, s)) {
			a.wantAllOfStops(t, s+" "+place, g, counts)
			a.wantAllOfStops(t, "the negative of "+s+" "+place, negated(t, g), counts)
		}
	}
	if counts["none"] > 0 || counts["hot"] < 100 || counts["disguised"] < 60 {
		t.Error("too few games of a kind", counts)
	}
}

func TestP10InvalidNumbersDeepInside(t *testing.T) {
	t.Parallel()
	zero, half := []impl.Form{zeroGame()}, invalidNumbers(t)["1/2^17"]
	for name, number := range map[string]impl.Form{"1/2^17": half, "1/2^16": numberForm(t, dyadic(1, 16))} {
		inZero := made(t, chains(1, 1), []impl.Form{made(t, []impl.Form{number}, nil)})
		for i, f := range []impl.Form{made(t, zero, []impl.Form{number, nimber(1)}), made(t, append(zero, made(t, []impl.Form{integer(-1)}, []impl.Form{inZero})), zero)} {
			for len(f.Nodes) < mostNodes {
				f = made(t, zero, []impl.Form{f})
				place := fmt.Sprintf("%d nodes above %s (%d)", len(f.Nodes), name, i)
				if name == "1/2^17" {
					wantNoStops(t, place, f)
				} else {
					wantStops(t, place, f, impl.Dyadic{}, impl.Dyadic{})
				}
			}
		}
	}
	// Each of these is half of the one before.
	f := integer(1)
	for pow := 1; pow <= 100; pow++ {
		f = made(t, zero, []impl.Form{f})
		name := fmt.Sprint("1/2^", pow)
		if d := dyadic(1, pow); pow <= 16 {
			wantStops(t, name, f, d, d)
			wantStops(t, "a switch to "+name, made(t, []impl.Form{f}, zero), d, impl.Dyadic{})
		} else {
			wantNoStops(t, name, f)
			wantNoStops(t, "a switch to "+name, made(t, []impl.Form{f}, zero))
		}
	}
}

// An invalid number somewhere in a game of many positions.
func TestP10OneInvalidNumberInMixedGames(t *testing.T) {
	t.Parallel()
	a, counts := newArbiter(), map[string]int{}
	half := invalidNumbers(t)["1/2^17"]
	for i, f := range append(sample(), fractional(t, 60)...) {
		left, right, _ := impl.OptionsOf(f)
		for k, g := range []impl.Form{made(t, append(left, half), right), made(t, left, append(right, half)), made(t, []impl.Form{made(t, append(left, half), right)}, []impl.Form{f}), made(t, []impl.Form{f}, []impl.Form{made(t, left, append(right, half))})} {
			name := fmt.Sprintf("mixed game %d (%d)", i, k)
			wantNoStops(t, name, g)
			a.wantAllOfStops(t, name, g, counts)
		}
	}
	if counts["none"] != counts["all"] || counts["all"] < 300 {
		t.Error("games with stops", counts)
	}
}

// The limit of options is one of canonical forms, which stops do not ask for.
func TestP10MoreOptionsThanAFormMayHave(t *testing.T) {
	t.Parallel()
	a, counts := newArbiter(), map[string]int{}
	for _, nimbers := range ints(1, 16, 23) {
		for _, switches := range ints(1, 8, 9, 12, mostOptions) {
			f, _, _ := wide(t, nimbers, switches)
			name := fmt.Sprintf("a game of %d nimbers and %d switches", nimbers, switches)
			_, ok := impl.CanonOf(f)
			wantBool(t, "CanonOf "+name, ok, true, nimbers+switches <= mostOptions)
			wantStops(t, name, f, impl.Dyadic{}, dyadic(-25, 0))
			wantLine(t, name, f, true, 0)
			wantLine(t, name, f, false, 0)
			for _, g := range []impl.Form{f, negated(t, f), made(t, []impl.Form{f}, []impl.Form{integer(-26)}), made(t, []impl.Form{integer(26)}, []impl.Form{f}), made(t, []impl.Form{f}, []impl.Form{f}), made(t, []impl.Form{f, integer(26)}, nil), made(t, []impl.Form{f, integer(26)}, []impl.Form{integer(-26)})} {
				a.wantAllOfStops(t, name, g, counts)
			}
		}
	}
	for last := 7; last <= mostUps; last++ {
		f, name := wideSmall(t, last), fmt.Sprint("a wide game to ", last)
		wantStops(t, name, f, impl.Dyadic{}, impl.Dyadic{})
		wantLine(t, name, f, true, 0)
		wantConsistent(t, name, made(t, []impl.Form{f}, []impl.Form{integer(-1)}))
	}
	for stars := 9; stars <= mostStar+1; stars++ {
		f, name := overfull(t, hots(t, stars, 5), saidAll(t, "-6"), 7), fmt.Sprint("a game of many options and ", stars, " stars")
		wantStops(t, name, f, impl.Dyadic{}, dyadic(-6, 0))
		a.wantAllOfStops(t, name, f, counts)
		a.wantAllOfStops(t, "the negative of "+name, negated(t, f), counts)
		a.wantAllOfStops(t, "a number beside "+name, made(t, []impl.Form{f, integer(8)}, nil), counts)
		_, ok := impl.CanonOf(f)
		wantBool(t, "CanonOf "+name, ok, true, false)
		wantNoStops(t, "an invalid number beside "+name, made(t, []impl.Form{f, invalidNumbers(t)["1/2^17"]}, []impl.Form{integer(-9)}))
	}
}

func TestP10MostNodesAndOptions(t *testing.T) {
	t.Parallel()
	for n := 1; n <= mostOptions; n++ {
		zero, last := impl.Dyadic{}, dyadic(n-1, 0)
		wantStops(t, fmt.Sprint("all to both sides ", n), withAllOptions(n, true, true), last, zero)
		wantLine(t, fmt.Sprint("all to both sides ", n), withAllOptions(n, true, true), true, n-1)
		wantLine(t, fmt.Sprint("all to both sides ", n), withAllOptions(n, true, true), false, 0)
		wantStops(t, fmt.Sprint("all to the left ", n), withAllOptions(n, true, false), dyadic(n, 0), dyadic(n, 0))
		wantStops(t, fmt.Sprint("all to the right ", n), withAllOptions(n, false, true), dyadic(-1, 0), dyadic(-1, 0))
	}
	for i := range mostNodes {
		tower, ladder := fmt.Sprint("tower ", i), fmt.Sprint("ladder ", i)
		wantStops(t, tower, towerOf(i+1), impl.Dyadic{}, impl.Dyadic{})
		wantStops(t, ladder, ladderOf(i+1), impl.Dyadic{}, impl.Dyadic{})
		// Every 25th node of a tower is equal to 0, and so is every second one of a ladder.
		var line []int
		for at := i; at%(mostOptions+1) != 0; at = max(0, at-mostOptions) {
			line = append(line, 0)
		}
		for _, left := range []bool{true, false} {
			wantLine(t, tower, towerOf(i+1), left, line...)
			wantLine(t, ladder, ladderOf(i+1), left, slices.Repeat(ints(0), i%2)...)
		}
		wantStops(t, fmt.Sprint("the integer ", i), integer(i), dyadic(i, 0), dyadic(i, 0))
		wantStops(t, fmt.Sprint("the integer ", -i), integer(-i), dyadic(-i, 0), dyadic(-i, 0))
	}
	for i, f := range append(longest(), tangleOf(mostNodes, 2, 77), tallOf(60, 4, 5), tallOf(90, 9, 3)) {
		wantConsistent(t, fmt.Sprint("long game ", i), f)
		wantConsistent(t, fmt.Sprint("the negative of long game ", i), negated(t, f))
	}
	f := made(t, chains(97, mostNodes-1), []impl.Form{integer(0)})
	wantStops(t, "{96,..,118|0}", f, dyadic(118, 0), impl.Dyadic{})
	wantLine(t, "{96,..,118|0}", f, true, 22)
}

func manyGames(t *testing.T) []impl.Form {
	t.Helper()
	return append(append(plainForms(plainDay2()), sample()...), append(crowded(t, 100), fractional(t, 150)...)...)
}

// Following a line by the options leads to the stop, and to no number before.
func TestP10LinesLeadToTheStops(t *testing.T) {
	t.Parallel()
	moves := 0
	for i, f := range append(manyGames(t), longest()...) {
		for _, left := range []bool{true, false} {
			stop, _ := impl.LeftStop(f)
			if !left {
				stop, _ = impl.RightStop(f)
			}
			line, ok := impl.StopLine(f, left)
			if !ok {
				t.Fatal("no line of game", i)
			}
			g, next := f, left
			for k, place := range line {
				_, is := impl.NumberOf(g)
				wantBool(t, fmt.Sprintf("NumberOf game %d after %d moves", i, k), is, true, false)
				g, next = partAfter(t, g, next, place), !next
			}
			d, is := impl.NumberOf(g)
			wantDyadic(t, fmt.Sprintf("NumberOf game %d after the line %v", i, line), d, is, stop)
			moves += len(line)
		}
	}
	if moves < 1000 {
		t.Error("only", moves, "moves")
	}
}

func TestP10StopsOfNegatives(t *testing.T) {
	t.Parallel()
	for i, f := range append(manyGames(t), longest()...) {
		left, right := stopsOf(t, f)
		a, b := new(big.Rat).Neg(right), new(big.Rat).Neg(left)
		high, _ := dyadicOf(a)
		low, _ := dyadicOf(b)
		wantStops(t, fmt.Sprint("the negative of game ", i), negated(t, f), high, low)
	}
}

func TestP10StopsOfEqualGames(t *testing.T) {
	t.Parallel()
	checked := 0
	same := func(name string, f impl.Form, g impl.Form) {
		left, right := stopsOf(t, f)
		high, _ := dyadicOf(left)
		low, _ := dyadicOf(right)
		wantStops(t, name, g, high, low)
		checked++
	}
	for i, row := range equalGames(t) {
		for k, f := range row {
			same(fmt.Sprintf("equal games %d (%d)", i, k), row[0], f)
		}
	}
	for i, f := range manyGames(t) {
		name := fmt.Sprint("game ", i)
		canon := canonOf(t, f)
		same("the canonical form of "+name, f, canon)
		dropped, ok := impl.DropForm(f)
		if !ok {
			t.Error("DropForm fails for game", i)
		}
		same(name+" without dominated options", f, dropped)
		if bypassed, ok := impl.BypassForm(f); ok {
			same(name+" with an option bypassed", f, bypassed)
		}
		if i%4 == 0 {
			for k, g := range equals(t, f) {
				// The options that equals adds may be bad only where there are others.
				if equal, ok := impl.EqualForms(f, g); !ok || !equal {
					continue
				}
				same(fmt.Sprintf("%s (%d)", name, k), f, g)
			}
		}
	}
	if checked < 2000 {
		t.Error("only", checked, "games")
	}
}

func TestP10StopsAreInOrder(t *testing.T) {
	t.Parallel()
	for i, f := range append(manyGames(t), longest()...) {
		if left, right := stopsOf(t, f); left.Cmp(right) < 0 {
			t.Errorf("game %d has the left stop %v and the right stop %v", i, left, right)
		}
	}
}

func sumOfStops(a *big.Rat, b *big.Rat) *big.Rat {
	return new(big.Rat).Add(a, b)
}

// wantBetween checks the stops of a sum against the sums of stops.
func wantBetween(t *testing.T, name string, f impl.Form, g impl.Form, sum impl.Form) {
	t.Helper()
	l, r := stopsOf(t, f)
	m, s := stopsOf(t, g)
	left, right := stopsOf(t, sum)
	low, high := sumOfStops(l, s), sumOfStops(r, m)
	if low.Cmp(high) > 0 {
		low, high = high, low
	}
	for i, pair := range [][2]*big.Rat{{sumOfStops(r, s), right}, {right, low}, {high, left}, {left, sumOfStops(l, m)}} {
		if pair[0].Cmp(pair[1]) > 0 {
			t.Errorf("the sum of %s with stops %v, %v and %v, %v has the stops %v, %v: %d", name, l, r, m, s, left, right, i)
		}
	}
}

func TestP10StopsOfSums(t *testing.T) {
	t.Parallel()
	var l []impl.Form
	for i, f := range manyGames(t) {
		if i%9 == 0 {
			l = append(l, f)
		}
	}
	sums := 0
	for i, f := range l {
		for k, g := range l {
			if (i*7+k)%5 > 0 || len(f.Nodes)*len(g.Nodes) > 250 {
				continue
			}
			if sum, ok := impl.SumForms(f, g); ok {
				wantBetween(t, fmt.Sprintf("games %d and %d", i, k), f, g, sum)
				sums++
			}
			if sum, ok := impl.CanonSum([]impl.Form{f, g}); ok {
				wantBetween(t, fmt.Sprintf("canonical games %d and %d", i, k), f, g, sum)
			}
		}
	}
	if sums < 300 {
		t.Error("only", sums, "sums")
	}
}

// A number moves both stops of a sum, as it stands and in canonical form.
func TestP10StopsOfSumsWithNumbers(t *testing.T) {
	t.Parallel()
	checked := 0
	for i, f := range manyGames(t) {
		for _, x := range numbers(t, "0 1 -1/2 3/4") {
			left, right := stopsOf(t, f)
			high, ok := dyadicOf(sumOfStops(left, valueOf(x)))
			low, fine := dyadicOf(sumOfStops(right, valueOf(x)))
			if !ok || !fine {
				t.Fatal("no valid sums of stops")
			}
			name := fmt.Sprintf("game %d and %v", i, x)
			if g, ok := impl.PlusNumber(f, x); ok {
				wantStops(t, name, g, high, low)
				checked++
			}
			if g, ok := impl.SumForms(f, numberForm(t, x)); ok && i%3 == 0 {
				wantStops(t, name+" as they are", g, high, low)
			}
		}
	}
	if checked < 2000 {
		t.Error("only", checked, "sums")
	}
}

// A game is above the numbers below its right stop, below those above its left stop, and confused with those between.
func TestP10GamesBeyondTheirStops(t *testing.T) {
	t.Parallel()
	zero, counts := new(big.Rat), map[int]int{}
	for i, f := range manyGames(t) {
		left, right := stopsOf(t, f)
		name := fmt.Sprint("game ", i)
		switch {
		case right.Cmp(zero) > 0:
			wantOutcome(t, name, f, impl.OutLeft)
			counts[impl.OutLeft]++
		case left.Cmp(zero) < 0:
			wantOutcome(t, name, f, impl.OutRight)
			counts[impl.OutRight]++
		case left.Cmp(zero) > 0 && right.Cmp(zero) < 0:
			wantOutcome(t, name, f, impl.OutFirst)
			counts[impl.OutFirst]++
		}
		for _, d := range smallDyadics(3, 3) {
			switch x := valueOf(d); {
			case right.Cmp(x) > 0:
				wantAgainst(t, name, f, d, impl.OutLeft)
			case left.Cmp(x) < 0:
				wantAgainst(t, name, f, d, impl.OutRight)
			case left.Cmp(x) > 0 && right.Cmp(x) < 0:
				wantAgainst(t, name, f, d, impl.OutFirst)
			}
		}
	}
	if counts[impl.OutLeft] < 60 || counts[impl.OutRight] < 60 || counts[impl.OutFirst] < 60 {
		t.Error("too few games of a kind", counts)
	}
}

func TestP10InvalidForms(t *testing.T) {
	t.Parallel()
	for name, bad := range invalidForms() {
		wantNoStops(t, name, bad)
	}
}

func TestP10NilAndEmpty(t *testing.T) {
	t.Parallel()
	for _, zero := range []impl.Form{formOf(node(nil, nil)), formOf(node(ints(), ints())), formOf(node(nil, ints())), formOf(node(ints(), nil))} {
		wantStops(t, "0", zero, impl.Dyadic{}, impl.Dyadic{})
		wantStops(t, "1", formOf(zero.Nodes[0], node(ints(0), ints())), dyadic(1, 0), dyadic(1, 0))
		wantStops(t, "-1", formOf(zero.Nodes[0], node(ints(), ints(0))), dyadic(-1, 0), dyadic(-1, 0))
		star := formOf(zero.Nodes[0], node(ints(0), ints(0)))
		wantStops(t, "*", star, impl.Dyadic{}, impl.Dyadic{})
		wantStops(t, "{*|}", formOf(zero.Nodes[0], star.Nodes[1], node(ints(1), ints())), impl.Dyadic{}, impl.Dyadic{})
		hot := formOf(zero.Nodes[0], node(ints(0), ints()), node(ints(1), ints(0)))
		wantStops(t, "{1|0}", hot, dyadic(1, 0), impl.Dyadic{})
		for _, left := range []bool{true, false} {
			wantLine(t, "0", zero, left, ints()...)
			wantLine(t, "*", star, left, 0)
			wantLine(t, "{1|0}", hot, left, 0)
		}
	}
	for _, none := range []impl.Form{{}, {Nodes: []impl.Node{}}, {Nodes: make([]impl.Node, 0, 3)}} {
		wantNoStops(t, "no nodes", none)
	}
}

// resultsOfStops has what each function of the chapter returns for f as one text, and both lines.
func resultsOfStops(f impl.Form, l ...impl.Dyadic) (string, [2][]int) {
	high, ok := impl.LeftStop(f)
	low, fine := impl.RightStop(f)
	hot, told := impl.IsHot(f)
	near, is := impl.NearOf(f)
	all := []any{high, ok, low, fine, hot, told, near, is}
	for _, d := range l {
		is, ok := impl.IsNear(f, d)
		all = append(all, is, ok)
	}
	left, ok := impl.StopLine(f, true)
	right, fine := impl.StopLine(f, false)
	return fmt.Sprint(append(all, ok, fine)...), [2][]int{left, right}
}

func wantResultsOfStops(t *testing.T, name string, rest string, lines [2][]int, f impl.Form, l ...impl.Dyadic) {
	t.Helper()
	plain, plainLines := resultsOfStops(copied(f), l...)
	if rest != plain {
		t.Errorf("the results for %s are %s, want %s", name, rest, plain)
	}
	for i, line := range lines {
		if !slices.Equal(line, plainLines[i]) {
			t.Errorf("line %d of %s is %v, want %v", i, name, line, plainLines[i])
		}
	}
}

func gamesOfStops(t *testing.T) []impl.Form {
	t.Helper()
	f, _, _ := wide(t, 23, mostOptions)
	return append(append(manyGames(t), f, negated(t, f), invalidNumbers(t)["1/2^17"]), longest()...)
}

func TestP30StopsModifyNoArgument(t *testing.T) {
	t.Parallel()
	l := numbers(t, "0 1 -1/2")
	for i, want := range gamesOfStops(t) {
		f := withSpare(want)
		rest, lines := resultsOfStops(f, l...)
		wantResultsOfStops(t, fmt.Sprint("game ", i, " with spare elements"), rest, lines, want, l...)
		wantSpare(t, "a function of stops", f, want)
	}
}

func TestP30StopsShareNoMemory(t *testing.T) {
	t.Parallel()
	l := numbers(t, "0 1 -1/2")
	for i, want := range gamesOfStops(t) {
		name := fmt.Sprint("game ", i)
		f := copied(want)
		rest, lines := resultsOfStops(f, l...)
		spoil(f)
		wantResultsOfStops(t, name+" after it was changed", rest, lines, want, l...)
		f = copied(want)
		_, spoiled := resultsOfStops(f, l...)
		rest, lines = resultsOfStops(f, l...)
		for _, line := range spoiled {
			line = line[:cap(line)]
			for k := range line {
				line[k] = -77
			}
		}
		wantForm(t, name+" after its lines were changed", f, true, want)
		wantResultsOfStops(t, name+" after other lines were changed", rest, lines, want, l...)
		_ = append(append(lines[0], -1), -1)
		wantResultsOfStops(t, name+" after a line was lengthened", rest, lines, want, l...)
		rest, lines = resultsOfStops(f, l...)
		wantResultsOfStops(t, name+" once more", rest, lines, want, l...)
	}
}

func TestP30StopsReturnForAll(t *testing.T) {
	t.Parallel()
	var strange []impl.Dyadic
	for _, top := range append(extremeInts(), 0, 1, -1, 2, 119, -120, 1000000, 1000001) {
		for _, pow := range append(extremeInts(), 0, 1, -1, 16, 17, 63, 64) {
			strange = append(strange, dyadic(top, pow))
		}
	}
	for i, f := range strangeForms() {
		func() {
			defer noPanic(t, fmt.Sprint(f))
			resultsOfStops(f, strange[i%len(strange)], strange[(i*5+2)%len(strange)])
		}()
	}
	for _, d := range strange {
		func() {
			defer noPanic(t, fmt.Sprint(d))
			resultsOfStops(nimber(1), d)
			resultsOfStops(short(t, "{1|-1}"), d)
			resultsOfStops(impl.Form{}, d)
		}()
	}
}

func TestP30StopsOfLargestGames(t *testing.T) {
	t.Parallel()
	forms := append(longest(), ladderOf(mostNodes-1), wideSmall(t, mostUps))
	for seed := range 20 {
		forms = append(forms, tangleOf(mostNodes, mostOptions+1, seed+1), tangleOf(mostNodes, 2+seed, seed+1))
		for _, integers := range ints(60, 90, 118) {
			forms = append(forms, tallOf(integers, 1+seed, seed+1))
		}
	}
	inTime(t, "the stops of the largest games", func() {
		for i, f := range forms {
			if !impl.GoodForm(f) {
				t.Error("large game", i, "is invalid")
			}
			resultsOfStops(f, dyadic(119, 0))
		}
	})
}

func TestP30StopsKeepNoState(t *testing.T) {
	t.Parallel()
	half := invalidNumbers(t)["1/2^17"]
	for range 2 {
		wantStops(t, "{1|-1}", short(t, "{1|-1}"), dyadic(1, 0), dyadic(-1, 0))
		wantNoStops(t, "no game", impl.Form{})
		wantStops(t, "{1|1}", short(t, "{1|1}"), dyadic(1, 0), dyadic(1, 0))
		wantNoStops(t, "1/2^17", half)
		wantLine(t, "^", short(t, "^"), false, 0, 0)
		wantLine(t, "0", zeroGame(), false)
		wantLine(t, "^", short(t, "^"), true, 0)
		wantStops(t, "119", integer(119), dyadic(119, 0), dyadic(119, 0))
	}
}
