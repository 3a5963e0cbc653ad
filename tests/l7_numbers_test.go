package tests

import (
	"cmp"
	"fmt"
	"slices"
	"strings"
	"testing"

	"loop.example/g00868/impl"
)

// A line has the games of numbers among other games by the document's words, those of invalid numbers as well.
type line struct {
	*referee
	entered map[[2]int]int
	values  map[int]impl.Dyadic
}

func newLine() *line {
	r := &referee{catalog: newCatalog(), least: map[[2]int]bool{}, canons: map[int]int{}}
	return &line{referee: r, entered: map[[2]int]int{}, values: map[int]impl.Dyadic{}}
}

func (l *line) number(d impl.Dyadic) int {
	for d.Pow > 0 && d.Top%2 == 0 {
		d = dyadic(d.Top/2, d.Pow-1)
	}
	if number, found := l.entered[[2]int{d.Top, d.Pow}]; found {
		return number
	}
	var lists [2][]int
	if d.Pow > 0 || d.Top > 0 {
		lists[0] = ints(l.number(dyadic(d.Top-1, d.Pow)))
	}
	if d.Pow > 0 || d.Top < 0 {
		lists[1] = ints(l.number(dyadic(d.Top+1, d.Pow)))
	}
	number := l.enter(lists[0], lists[1])
	l.entered[[2]int{d.Top, d.Pow}], l.values[number] = number, d
	return number
}

func (l *line) fitting(a int, number int) bool {
	return !slices.ContainsFunc(l.games[a][0], func(left int) bool { return l.atLeast(left, number) }) &&
		!slices.ContainsFunc(l.games[a][1], func(right int) bool { return l.atLeast(number, right) })
}

func bornOn(d impl.Dyadic) int {
	n, _ := impl.BornOfDyadic(d)
	return n
}

// numbersBorn has the numbers of the first days, earlier ones before later ones.
func numbersBorn(last int) []impl.Dyadic {
	var all []impl.Dyadic
	for _, d := range smallDyadics(last, last) {
		if bornOn(d) <= last {
			all = append(all, d)
		}
	}
	slices.SortStableFunc(all, func(a, b impl.Dyadic) int { return cmp.Compare(bornOn(a), bornOn(b)) })
	return all
}

// numbers reads a list such as "1 -3/8".
func numbers(t *testing.T, s string) []impl.Dyadic {
	t.Helper()
	var l []impl.Dyadic
	for _, text := range strings.Fields(s) {
		d, ok := impl.ReadDyadic(text)
		if !ok {
			t.Fatalf("ReadDyadic(%q) fails", text)
		}
		l = append(l, d)
	}
	return l
}

func numberForm(t *testing.T, d impl.Dyadic) impl.Form {
	t.Helper()
	f, ok := impl.NumberForm(d)
	if !ok {
		t.Fatalf("NumberForm(%v) fails", d)
	}
	return f
}

func minus(d impl.Dyadic) impl.Dyadic {
	return dyadic(-d.Top, d.Pow)
}

func switchOf(t *testing.T, high impl.Dyadic, low impl.Dyadic) impl.Form {
	t.Helper()
	return made(t, []impl.Form{numberForm(t, high)}, []impl.Form{numberForm(t, low)})
}

func wantNoNumberForm(t *testing.T, d impl.Dyadic) {
	t.Helper()
	f, ok := impl.NumberForm(d)
	wantNoForm(t, fmt.Sprintf("NumberForm(%v)", d), f, ok)
}

func wantFit(t *testing.T, name string, f impl.Form, d impl.Dyadic, want bool) {
	t.Helper()
	fits, ok := impl.FitsNumber(f, d)
	wantBool(t, fmt.Sprintf("FitsNumber of %s and %v", name, d), fits, ok, want)
}

func wantAgainst(t *testing.T, name string, f impl.Form, d impl.Dyadic, want int) {
	t.Helper()
	if n, ok := impl.CompareNumber(f, d); n != want || !ok {
		t.Errorf("CompareNumber of %s and %v = %d, %v, want %d, true", name, d, n, ok, want)
	}
	if n, ok := impl.CompareForms(f, numberForm(t, d)); n != want || !ok {
		t.Errorf("CompareForms of %s and %v = %d, %v, want %d, true", name, d, n, ok, want)
	}
}

func wantPlus(t *testing.T, name string, f impl.Form, d impl.Dyadic, want impl.Form) {
	t.Helper()
	g, ok := impl.PlusNumber(f, d)
	wantForm(t, fmt.Sprintf("PlusNumber of %s and %v", name, d), g, ok, want)
}

func wantNoPlus(t *testing.T, name string, f impl.Form, d impl.Dyadic) {
	t.Helper()
	g, ok := impl.PlusNumber(f, d)
	wantNoForm(t, fmt.Sprintf("PlusNumber of %s and %v", name, d), g, ok)
}

// wantEqualTo checks all functions that tell which number a game is equal to.
func wantEqualTo(t *testing.T, name string, f impl.Form, d impl.Dyadic) {
	t.Helper()
	x, ok := impl.NumberOf(f)
	wantDyadic(t, "NumberOf "+name, x, ok, d)
	x, ok = impl.SimplestFor(f)
	wantDyadic(t, "SimplestFor "+name, x, ok, d)
	whole, ok := impl.IsWhole(f)
	wantBool(t, "IsWhole "+name, whole, ok, d.Pow == 0)
	wantFit(t, name, f, d, true)
	wantAgainst(t, name, f, d, impl.OutSecond)
}

func wantEqualToNone(t *testing.T, name string, f impl.Form) {
	t.Helper()
	x, ok := impl.NumberOf(f)
	wantNoDyadic(t, "NumberOf "+name, x, ok)
	x, ok = impl.SimplestFor(f)
	wantNoDyadic(t, "SimplestFor "+name, x, ok)
	whole, ok := impl.IsWhole(f)
	wantBool(t, "IsWhole "+name, whole, ok, false)
}

// wantSimplest checks a game by the document's words with the numbers of the first days, one of which has to fit if any does. It returns whether one fits.
func (l *line) wantSimplest(t *testing.T, name string, f impl.Form, first []impl.Dyadic) bool {
	t.Helper()
	a := l.read(f)
	var fitting []impl.Dyadic
	for _, d := range first {
		number := l.number(d)
		fits := l.fitting(a, number)
		if fits {
			fitting = append(fitting, d)
		}
		wantFit(t, name, f, d, fits)
		wantAgainst(t, name, f, d, plainClass(l.atLeast(a, number), l.atLeast(number, a)))
	}
	value, is := l.values[l.canon(a)]
	if is != (len(fitting) > 0) || is && value != fitting[0] {
		t.Errorf("%s is equal to the number %v: %v, but %v fit", name, value, is, fitting)
	}
	if is {
		wantEqualTo(t, name, f, value)
	} else {
		wantEqualToNone(t, name, f)
	}
	return is
}

func TestP7KnownForms(t *testing.T) {
	for s, text := range map[string]string{
		"0": "{|}", "1": "{{|}|}", "-1": "{|{|}}", "2": "{{{|}|}|}", "-2": "{|{|{|}}}", "3": "{{{{|}|}|}|}", "-3": "{|{|{|{|}}}}",
		"1/2": "{{|}|{{|}|}}", "-1/2": "{{|{|}}|{|}}", "3/2": "{{{|}|}|{{{|}|}|}}", "-3/2": "{{|{|{|}}}|{|{|}}}", "5/2": "{{{{|}|}|}|{{{{|}|}|}|}}", "-5/2": "{{|{|{|{|}}}}|{|{|{|}}}}",
		"1/4": "{{|}|{{|}|{{|}|}}}", "-1/4": "{{{|{|}}|{|}}|{|}}", "3/4": "{{{|}|{{|}|}}|{{|}|}}", "-3/4": "{{|{|}}|{{|{|}}|{|}}}", "5/4": "{{{|}|}|{{{|}|}|{{{|}|}|}}}",
		"1/8": "{{|}|{{|}|{{|}|{{|}|}}}}", "3/8": "{{{|}|{{|}|{{|}|}}}|{{|}|{{|}|}}}", "5/8": "{{{|}|{{|}|}}|{{{|}|{{|}|}}|{{|}|}}}", "7/8": "{{{{|}|{{|}|}}|{{|}|}}|{{|}|}}",
	} {
		for _, d := range numbers(t, s) {
			f, ok := impl.NumberForm(d)
			wantForm(t, "NumberForm of "+s, f, ok, read(t, text))
		}
	}
	for n := -119; n <= 119; n++ {
		f, ok := impl.NumberForm(dyadic(n, 0))
		wantForm(t, fmt.Sprint("NumberForm of ", n), f, ok, integer(n))
	}
}

// wantGame checks the form of a number by the document's words.
func (l *line) wantGame(t *testing.T, d impl.Dyadic) {
	t.Helper()
	f, ok := impl.NumberForm(d)
	name := fmt.Sprint("the game of ", d)
	l.want(t, name, f, ok, l.number(d))
	is, ok := impl.IsCanon(f)
	wantBool(t, "IsCanon "+name, is, ok, true)
	wantCanon(t, "of "+name, f, f)
	wantEqualTo(t, name, f, d)
	wantForm(t, "the negative of "+name, negated(t, f), true, numberForm(t, minus(d)))
	if n, ok := impl.BornOf(f); n != bornOn(d) || !ok {
		t.Errorf("BornOf %s = %d, %v, want %d, true", name, n, ok, bornOn(d))
	}
}

func TestP7FormsOfNumbers(t *testing.T) {
	l := newLine()
	for _, d := range append(smallDyadics(6, 5), numbersBorn(9)...) {
		l.wantGame(t, d)
	}
	for _, d := range mixedDyadics() {
		if bornOn(d) < mostNodes {
			l.wantGame(t, d)
		} else {
			wantNoNumberForm(t, d)
		}
	}
}

// The form of a fraction between n and n+1 has the integers from 0 to n+1 and one number for each Pow up to its own.
func TestP7Limits(t *testing.T) {
	l := newLine()
	for pow := 1; pow <= 16; pow++ {
		good, bad := 0, 0
		for n := 114 - pow; n <= 122-pow; n++ {
			for _, top := range ints(n<<pow+1, n<<pow+1<<(pow-1)|1, (n+1)<<pow-1) {
				d := dyadic(top, pow)
				if !impl.GoodDyadic(d) || n+pow+2 > mostNodes {
					wantNoNumberForm(t, d)
					wantNoNumberForm(t, minus(d))
					bad++
					continue
				}
				l.wantGame(t, d)
				l.wantGame(t, minus(d))
				if f := numberForm(t, d); len(f.Nodes) != n+pow+2 {
					t.Errorf("NumberForm(%v) has %d nodes, want %d", d, len(f.Nodes), n+pow+2)
				}
				good++
			}
		}
		if bad < 12 || pow <= 13 && good != 15 {
			t.Errorf("%d numbers with Pow %d have a form and %d have none", good, pow, bad)
		}
	}
	for n := 0; n < mostNodes; n++ {
		l.wantGame(t, dyadic(n, 0))
		l.wantGame(t, dyadic(-n, 0))
	}
	for _, n := range ints(mostNodes, mostNodes+1, mostNodes+2, 255, 1000, 65536, 999999, 1000000) {
		wantNoNumberForm(t, dyadic(n, 0))
		wantNoNumberForm(t, dyadic(-n, 0))
	}
}

// With a great Pow the limit of Top is met before the one of the nodes.
func TestP7GreatPows(t *testing.T) {
	l := newLine()
	for pow, nodes := range map[int]int{16: 33, 15: 47, 14: 77} {
		for _, top := range ints(1, 3, 1<<pow-1, 1<<pow+1, 3<<pow-1, 499999, 999997, 999999) {
			l.wantGame(t, dyadic(top, pow))
			l.wantGame(t, dyadic(-top, pow))
		}
		if f := numberForm(t, dyadic(999999, pow)); len(f.Nodes) != nodes {
			t.Errorf("the game of 999999/2^%d has %d nodes, want %d", pow, len(f.Nodes), nodes)
		}
		wantNoNumberForm(t, dyadic(1000001, pow))
		wantNoNumberForm(t, dyadic(-1000001, pow))
	}
	for _, top := range ints(1, 3, 65537, 131071, 999999) {
		wantNoNumberForm(t, dyadic(top, 17))
		wantNoNumberForm(t, dyadic(-top, 17))
	}
}

func TestP7NumbersWithoutForms(t *testing.T) {
	games := []impl.Form{zeroGame(), chainOf(2), minusChain(3), nimber(1), short(t, "{1|-1}"), short(t, "{*|}"), chainOf(mostNodes), {}, chainOf(mostNodes + 1)}
	late := []impl.Dyadic{dyadic(120, 0), dyadic(-120, 0), dyadic(237, 1), dyadic(-237, 1), dyadic(1000000, 0), dyadic(-1000000, 0), dyadic(868353, 13), dyadic(-868353, 13), dyadic(999999, 1)}
	for _, d := range append(invalidDyadics(), late...) {
		wantNoNumberForm(t, d)
		for i, f := range games {
			name := fmt.Sprintf("game %d and %v", i, d)
			fits, ok := impl.FitsNumber(f, d)
			wantNoBool(t, "FitsNumber of "+name, fits, ok)
			n, ok := impl.CompareNumber(f, d)
			wantNoInt(t, "CompareNumber of "+name, n, ok)
			wantNoPlus(t, name, f, d)
		}
	}
}

// wantValues reads games for each value, which is "none" for games that are not numbers.
func wantValues(t *testing.T, table map[string]string) {
	t.Helper()
	l, first := newLine(), numbersBorn(5)
	for value, games := range table {
		for _, game := range strings.Fields(games) {
			f := short(t, game)
			l.wantSimplest(t, game, f, first)
			l.wantSimplest(t, "the negative of "+game, negated(t, f), first)
			if value == "none" {
				wantEqualToNone(t, game, f)
				continue
			}
			for _, d := range numbers(t, value) {
				wantEqualTo(t, game, f, d)
				wantEqualTo(t, "the negative of "+game, negated(t, f), minus(d))
			}
		}
	}
}

func TestP7OptionsThatAreNumbers(t *testing.T) {
	wantValues(t, map[string]string{
		"0":    "0 {-1|} {-2|} {|1} {|2} {-1|1} {-2|1} {-1|2} {-1,-2|} {{-1|0}|} {{-1|0}|{0|1}} {{-1|0}|2}",
		"1":    "1 {0|2} {{0|1}|} {{0|1}|2} {0,-1|} {-1,{0|1}|2} {0|{1|}} {0|{1|2}}",
		"-1":   "-1 {-2|0} {|{-1|0}} {|0,1} {-2|{-1|0}} {{-2|-1}|0}",
		"2":    "2 {1|} {0,1|} {1|{2|}} {{1|2}|} {-1,{1|2}|}",
		"1/2":  "{0|1} {0,-1|1} {0|1,2} {{0|{0|1}}|{{0|1}|1}} {{0|{0|1}}|1}",
		"-1/2": "{-1|0} {-1,-2|0,1} {-1|{{-1|0}|0}}",
		"3/2":  "{1|2} {0,1|2} {1|2,{2|}} {{1|{1|2}}|2}",
		"1/4":  "{0|{0|1}} {0,-1|1,{0|1}}",
		"3/4":  "{{0|1}|1} {0,{0|1}|1,2}",
		"-3/8": "{{-1|0}|{{-1|0}|0}}",
		"none": "{0|0} {1|1} {1|0} {0|-1} {1|-1} {2|-1} {0,1|1} {0,1|0,-1} {{0|1}|0} {1|{0|1}} {{0|1}|{0|1}} {0,-1|0,1} {2|{1|2}}",
	})
}

// An option that is confused with numbers leaves those to fit.
func TestP7OptionsThatAreNotNumbers(t *testing.T) {
	wantValues(t, map[string]string{
		// On one side.
		"0":    "{*|} {v|} {{1|-1}|} {{2|0}|} {{1|0}|} {*,{0|-2}|} {-1,*|} {*|1} {v|1} {{1|-1}|2} {-2|{1|-1}} {-2|{0|-1}} {{-1|0}|*}",
		"1":    "{^|} {{2|1}|} {{1|1}|} {{1|{0|1}}|} {{1|^}|} {*,{2|1}|} {0,*|} {0,{1|-1}|} {{1|1}|2} {{2|1}|2} {0|{1|1}} {0|{1|0}} {0|{2|-1}}",
		"2":    "{{2|2}|} {1,{2|0}|} {1,*,{1|1}|} {1|{2|2}} {1|{2|0}}",
		"1/2":  "{0,*|1} {^|1} {{^|^}|1} {{1|^}|1} {{1|{0|1}}|1} {0|1,{2|0}} {0|{{0|1}|0}}",
		"3/4":  "{{2|{0,{0|1}|1}}|1} {0,{2|{{0|1}|1}}|1}",
		"3/2":  "{{2|{1|2}}|2} {1,{1|-1}|2}",
		"none": "{0|^} {v|0} {0|*} {*|0} {1|{1|-1}} {{1|-1}|-1} {0|{0|-1}} {{1|0}|0} {0|v} {^|0} {{1|{0|1}}|{0|1}} {{1|1}|-1} {{2|2}|2} {1|{1|1}} {{2|0}|-1} {0,*|0} {1,{1|-1}|1}",
	})
	wantValues(t, map[string]string{
		// On both sides.
		"0":    "{*|*} {v|^} {v|*} {{2|0}|{1|-1}} {{-1|-2}|{2|1}} {{1|0}|{2|1}} {{1|0}|{0|-1}} {{{0|1}|0}|{{0|1}|0}} {{1|-1}|{1|-1}} {{0,*|0}|{0|0,*}} {*,{1|-1}|*,{1|-1}} {{0|-1}|{1|0}} {-1,*|1,*}",
		"1":    "{{2|1}|{2|1}} {{1|1}|{1|1}} {{1|1}|{1|0}} {{{1|2}|1}|{2|{1|2}}} {{1|{0|1}}|{1|{0|1}}} {0,{1|1}|2,{2|1}}",
		"1/2":  "{{2|{0|1}}|{{0|1}|-1}} {{{0|1}|{0|1}}|{{0|1}|{0|1}}} {0,*|{{0|1}|0}}",
		"none": "{^|v} {^|^} {v|v} {*|v} {^|*} {{2|1}|{-1|-2}} {{1|1}|{0|0}} {{1|*}|{*|-1}} {{2|2}|{1|1}} {0,*|0,*} {{1|0}|{-1|-1}} {{2|1}|{0|-2}} {{1|1}|{{0|1}|-1}} {0,{1|-1}|{0|-1}}",
	})
}

func TestP7EveryGameOfDay2(t *testing.T) {
	l, first := newLine(), numbersBorn(5)
	values := map[impl.Dyadic]bool{}
	for i, f := range plainForms(plainDay2()) {
		if l.wantSimplest(t, fmt.Sprint("game ", i), f, first) {
			d, _ := impl.NumberOf(f)
			values[d] = true
		}
	}
	if len(values) != 7 {
		t.Errorf("the games of day 2 are equal to %d numbers, want 7", len(values))
	}
}

// sidesWithOthers counts the sides on which a game has an option that is no number.
func (l *line) sidesWithOthers(f impl.Form) int {
	sides := 0
	for _, options := range l.games[l.read(f)] {
		if slices.ContainsFunc(options, func(option int) bool { _, is := l.values[l.canon(option)]; return !is }) {
			sides++
		}
	}
	return sides
}

func TestP7MixedGames(t *testing.T) {
	l := newLine()
	for _, d := range numbersBorn(5) {
		l.number(d)
	}
	numbersWith, othersWith := ints(0, 0, 0), ints(0, 0, 0)
	for i, f := range append(sample(), crowded(t, 500)...) {
		born, ok := impl.BornOf(f)
		if !ok || born > 5 {
			continue
		}
		// A game is not equal to a number that is born later.
		if l.wantSimplest(t, fmt.Sprint("mixed game ", i), f, numbersBorn(born)) {
			numbersWith[l.sidesWithOthers(f)]++
		} else {
			othersWith[l.sidesWithOthers(f)]++
		}
	}
	if slices.Min(numbersWith) < 15 || slices.Min(othersWith) < 5 {
		t.Error("too few games with options that are not numbers on 0, 1 or 2 sides", numbersWith, othersWith)
	}
}

func TestP7DeepGames(t *testing.T) {
	l := newLine()
	for _, d := range append(numbersBorn(9), smallDyadics(40, 1)...) {
		l.number(d)
	}
	are := 0
	for nodes := 3; nodes <= 40; nodes++ {
		for i, f := range tangles(nodes, 10) {
			name := fmt.Sprintf("tangle %d of %d nodes", i, nodes)
			if d, is := l.values[l.canon(l.read(f))]; is {
				wantEqualTo(t, name, f, d)
				are++
			} else {
				wantEqualToNone(t, name, f)
			}
		}
	}
	if are < 20 {
		t.Error("only", are, "tangles are numbers")
	}
	for i := range mostNodes {
		if i%(mostOptions+1) == 0 {
			wantEqualTo(t, fmt.Sprint("tower ", i), towerOf(i+1), dyadic(0, 0))
		} else {
			wantEqualToNone(t, fmt.Sprint("tower ", i), towerOf(i+1))
		}
		if i%2 == 0 {
			wantEqualTo(t, fmt.Sprint("ladder ", i), ladderOf(i+1), dyadic(0, 0))
		} else {
			wantEqualToNone(t, fmt.Sprint("ladder ", i), ladderOf(i+1))
		}
	}
}

func TestP7GamesEqualToNumbers(t *testing.T) {
	for i, row := range equalGames(t) {
		for k, f := range row {
			name := fmt.Sprintf("equal games %d (%d)", i, k)
			switch i {
			case 0, 1, 2:
				wantEqualTo(t, name, f, dyadic(i, 0))
			case 6:
				wantEqualTo(t, name, f, dyadic(1, 1))
			default:
				wantEqualToNone(t, name, f)
			}
		}
	}
	for n := 1; n <= mostOptions; n++ {
		wantEqualTo(t, fmt.Sprint("all below ", n), withAllOptions(n, true, false), dyadic(n, 0))
		wantEqualTo(t, fmt.Sprint("all below on the right ", n), withAllOptions(n, false, true), dyadic(-1, 0))
		wantEqualToNone(t, fmt.Sprint("all to both sides ", n), withAllOptions(n, true, true))
	}
	// The sum of a number and a game of value 0 is equal to the number, but not in its form.
	for _, d := range append(smallDyadics(3, 3), numbers(t, "5 -5 11 -11")...) {
		f := numberForm(t, d)
		for k, zero := range []string{"{*|*}", "{-1|1}", "{*|}", "{v|^}"} {
			both := added(t, f, short(t, zero))
			wantEqualTo(t, fmt.Sprintf("%v and game %d", d, k), both, d)
			wantAgainst(t, fmt.Sprintf("%v and game %d", d, k), both, dyadic(12, 0), impl.OutRight)
		}
		wantEqualToNone(t, fmt.Sprint("* and ", d), added(t, f, nimber(1)))
		wantEqualToNone(t, fmt.Sprint("up and ", d), added(t, f, short(t, "^")))
		wantEqualToNone(t, fmt.Sprint("±1 and ", d), added(t, f, short(t, "{1|-1}")))
	}
}

// gap has no left option for low nil, and no right option for high nil.
func gap(t *testing.T, low *impl.Dyadic, high *impl.Dyadic) impl.Form {
	t.Helper()
	var lists [2][]impl.Form
	for side, end := range []*impl.Dyadic{low, high} {
		if end != nil {
			lists[side] = []impl.Form{numberForm(t, *end)}
		}
	}
	return made(t, lists[0], lists[1])
}

func TestP7SimplestBetweenNumbers(t *testing.T) {
	ends := []*impl.Dyadic{nil}
	for _, d := range smallDyadics(3, 3) {
		ends = append(ends, &d)
	}
	for _, low := range ends {
		for _, high := range ends {
			f, from, to := gap(t, low, high), dyadic(-1000, 0), dyadic(1000, 0)
			if low != nil {
				from = *low
			}
			if high != nil {
				to = *high
			}
			name := fmt.Sprintf("a game between %v and %v", from, to)
			if want, ok := plainSimplest(from, to); ok {
				wantEqualTo(t, name, f, want)
			} else {
				wantEqualToNone(t, name, f)
			}
			for _, d := range smallDyadics(3, 4) {
				wantFit(t, name, f, d, valueOf(from).Cmp(valueOf(d)) < 0 && valueOf(d).Cmp(valueOf(to)) < 0)
			}
		}
	}
}

// wantFitting takes the numbers to the fifth day that fit, earlier ones before later ones.
func wantFitting(t *testing.T, name string, f impl.Form, fitting []impl.Dyadic) {
	t.Helper()
	if len(fitting) == 0 {
		wantEqualToNone(t, name, f)
	} else {
		wantEqualTo(t, name, f, fitting[0])
	}
	for _, d := range numbersBorn(5) {
		wantFit(t, name, f, d, slices.Contains(fitting, d))
	}
}

// A switch as an option is confused with its ends and what is between, and leaves all of that to fit.
func TestP7SimplestBetweenSwitches(t *testing.T) {
	ends := numbers(t, "-2 -3/2 -1 -5/8 -1/2 0 1/4 1/2 3/4 1 2")
	for _, low := range ends {
		for _, high := range ends {
			for _, width := range numbers(t, "0 1/2 3") {
				wantBetweenSwitches(t, low, high, width)
			}
		}
	}
}

func wantBetweenSwitches(t *testing.T, low impl.Dyadic, high impl.Dyadic, width impl.Dyadic) {
	t.Helper()
	above, _ := impl.AddDyadic(low, width)
	below, _ := impl.AddDyadic(high, minus(width))
	from, to := []impl.Form{switchOf(t, above, low)}, []impl.Form{switchOf(t, high, below)}
	var both, onLeft, onRight, alone []impl.Dyadic
	for _, d := range numbersBorn(5) {
		over, under := valueOf(d).Cmp(valueOf(low)), valueOf(high).Cmp(valueOf(d))
		if over >= 0 && under >= 0 {
			both = append(both, d)
		}
		if over >= 0 && under > 0 {
			onLeft = append(onLeft, d)
		}
		if over > 0 && under >= 0 {
			onRight = append(onRight, d)
		}
		if over >= 0 {
			alone = append(alone, d)
		}
	}
	name := fmt.Sprintf(" a switch from %v to %v or one from %v to %v", above, low, high, below)
	wantFitting(t, "on both sides"+name, made(t, from, to), both)
	wantFitting(t, "on the left"+name, made(t, from, []impl.Form{numberForm(t, high)}), onLeft)
	wantFitting(t, "on the right"+name, made(t, []impl.Form{numberForm(t, low)}, to), onRight)
	wantFitting(t, "alone on the left"+name, made(t, from, nil), alone)
}

func TestP7KnownFits(t *testing.T) {
	for game, fit := range map[string][2]string{
		// No options, or options of one player only.
		"0":      {"0 1 -1 1/2 -1/65536 119 -119 999999/65536", ""},
		"1":      {"1 2 1/2 1/65536 119 235/2", "0 -1/65536 -1 -1/2 -119"},
		"-1":     {"-1 -2 -1/2 -1/65536 -119", "0 1/65536 1 119"},
		"2":      {"2 3/2 65537/65536 119", "1 65535/65536 0 -2"},
		"{0,1|}": {"2 3/2 65537/65536 119", "1 65535/65536 1/2 0 -2"},
		// Numbers equal to an option, in the form of the number and in others.
		"{0|1}":             {"1/2 1/4 3/4 1/65536 65535/65536", "0 1 -1 2 -1/65536 65537/65536"},
		"{-1|1}":            {"0 1/2 -1/2 65535/65536 -65535/65536", "-1 1 2 -2"},
		"{{*|*}|}":          {"1/65536 1 119", "0 -1/65536 -1"},
		"{|{*|*}}":          {"-1/65536 -1 -119", "0 1/65536 1"},
		"{{0|2}|{1|}}":      {"3/2 65537/65536", "1 2 0 3"},
		"{{-1|1}|{{*|*}|}}": {"1/2 1/65536", "0 1 -1"},
		// Numbers confused with an option, and the next ones that are not.
		"{*|}":            {"0 1 1/65536 119", "-1/65536 -1 -119"},
		"{|*}":            {"0 -1 -1/65536 -119", "1/65536 1 119"},
		"{*|*}":           {"0", "1/65536 -1/65536 1 -1"},
		"{{1|-1}|}":       {"-1 -65535/65536 0 1 2 119", "-65537/65536 -2"},
		"{|{1|-1}}":       {"1 65535/65536 0 -1 -2", "65537/65536 2"},
		"{{1|-1}|{1|-1}}": {"-1 0 1 1/2 -65535/65536", "-65537/65536 65537/65536 2 -2"},
		"{{1|1}|{1|1}}":   {"1", "65535/65536 65537/65536 0 2"},
		"{0|{1|0}}":       {"1 1/2 1/65536", "0 65537/65536 -1"},
		"{*|1}":           {"0 1/2 65535/65536", "1 -1/65536"},
		// Options that are nearer to 0 than any other number.
		"{^|}":  {"1/65536 1", "0 -1/65536"},
		"{|^}":  {"0 -1/65536 -1", "1/65536 1"},
		"{v|}":  {"0 1/65536 1", "-1/65536 -1"},
		"{v|^}": {"0", "1/65536 -1/65536"},
		// Games that no number fits.
		"*":             {"", "0 1 -1 1/65536 -1/65536"},
		"{1|-1}":        {"", "0 1 -1 2 -2 1/2"},
		"{0|*}":         {"", "0 1/65536 -1/65536 1"},
		"{^|v}":         {"", "0 1/65536 -1/65536"},
		"{{2|2}|{1|1}}": {"", "0 1 3/2 2 3"},
	} {
		f := short(t, game)
		for i, list := range fit {
			for _, d := range numbers(t, list) {
				wantFit(t, game, f, d, i == 0)
				wantFit(t, "the negative of "+game, negated(t, f), minus(d), i == 0)
			}
		}
	}
}

// wantBeyond checks a game that only numbers fit which are invalid.
func wantBeyond(t *testing.T, name string, f impl.Form) {
	t.Helper()
	wantEqualToNone(t, name, f)
	wantEqualToNone(t, "the negative of "+name, negated(t, f))
	for _, d := range append(mixedDyadics(), smallDyadics(2, 3)...) {
		if bornOn(d) < mostNodes {
			wantFit(t, name, f, d, false)
		}
	}
}

func TestP7SimplestOfGreatestPow(t *testing.T) {
	zero, least := []impl.Form{zeroGame()}, []impl.Form{numberForm(t, dyadic(1, 16))}
	half := made(t, zero, least)
	wantBeyond(t, "1/2^17", half)
	wantBeyond(t, "1/2^18", made(t, zero, []impl.Form{half}))
	wantBeyond(t, "3/2^18", made(t, []impl.Form{half}, least))
	wantBeyond(t, "{0,1/2^17|1/2^16}", made(t, []impl.Form{zeroGame(), half}, least))
	wantEqualTo(t, "{1/2^17|}", made(t, []impl.Form{half}, nil), dyadic(1, 0))
	wantEqualTo(t, "{1/2^17|1}", made(t, []impl.Form{half}, chains(2, 2)), dyadic(1, 1))
	wantEqualTo(t, "{|1/2^17}", made(t, nil, []impl.Form{half}), dyadic(0, 0))
	wantEqualTo(t, "{0|1/2^15}", gap(t, &impl.Dyadic{}, &impl.Dyadic{Top: 1, Pow: 15}), dyadic(1, 16))
	wantAgainst(t, "1/2^17", half, dyadic(1, 16), impl.OutRight)
	wantAgainst(t, "1/2^17", half, dyadic(0, 0), impl.OutLeft)
	wantPlus(t, "1/2^17", half, dyadic(0, 0), half)
	// Options that are not numbers, but leave only such numbers to fit.
	from, to := made(t, chains(2, 2), []impl.Form{half}), made(t, []impl.Form{half}, zero)
	wantBeyond(t, "{{1|1/2^17}|{1/2^17|0}}", made(t, []impl.Form{from}, []impl.Form{to}))
	wantBeyond(t, "{{1|1/2^17}|1/2^16}", made(t, []impl.Form{from}, least))
	wantBeyond(t, "{0|{1/2^17|0}}", made(t, zero, []impl.Form{to}))
	wantEqualTo(t, "{{1|1/2^17}|{1/2^16|0}}", made(t, []impl.Form{from}, []impl.Form{made(t, least, zero)}), dyadic(1, 16))
	wantEqualTo(t, "{{1|1/2^17}|}", made(t, []impl.Form{from}, nil), dyadic(1, 0))
	for _, top := range ints(1, 2, 32767, 65534, 65535, 65536, 999997, 999998) {
		low, _ := impl.MakeDyadic(top, 16)
		high, _ := impl.MakeDyadic(top+1, 16)
		wantBeyond(t, fmt.Sprintf("between %v and %v", low, high), gap(t, &low, &high))
	}
}

// The number n + 1/2^pow is the simplest between n and n + 1/2^(pow-1), and the game of these two has as many nodes as its own.
func TestP7SimplestOfGreatestTop(t *testing.T) {
	for _, c := range []struct{ pow, valid, last int }{{16, 15, 30}, {15, 30, 61}, {14, 61, 104}, {13, 105, 105}, {12, 106, 106}, {7, 111, 111}, {2, 116, 116}} {
		for n := c.valid - 3; n <= c.last; n++ {
			low, high := dyadic(n, 0), dyadic(n<<(c.pow-1)+1, c.pow-1)
			f, name := gap(t, &low, &high), fmt.Sprintf("%d + 1/2^%d", n, c.pow)
			if n > c.valid {
				wantBeyond(t, name, f)
				continue
			}
			d := dyadic(n<<c.pow+1, c.pow)
			wantEqualTo(t, name, f, d)
			wantEqualTo(t, "the negative of "+name, negated(t, f), minus(d))
		}
	}
	for _, options := range [][]impl.Form{chains(119, 119), {nimber(1), integer(117)}, chains(97, 118)} {
		f := made(t, options, nil)
		want := dyadic(len(options[len(options)-1].Nodes), 0)
		wantEqualTo(t, fmt.Sprint("a game of value ", want), f, want)
		wantEqualTo(t, fmt.Sprint("a game of value ", minus(want)), negated(t, f), minus(want))
	}
}

// Each number below d is below the sum of d and ↓, and each one above d is above the sum of d and ↑, so that a search for one that fits goes on to the limits of numbers and of forms.
func TestP7NothingInfinitelyNear(t *testing.T) {
	all := append(smallDyadics(3, 3), numbers(t, "1/65536 999999/65536 -999999/65536 65535/65536 999999/32768")...)
	for n := 4; n <= 116; n++ {
		all = append(all, dyadic(n, 0), dyadic(-n, 0))
	}
	for pow := 1; pow <= 12; pow++ {
		all = append(all, dyadic((115-pow)<<pow+1, pow), dyadic(1-(116-pow)<<pow, pow))
	}
	for _, d := range all {
		number := []impl.Form{numberForm(t, d)}
		star := []impl.Form{made(t, number, number)}
		down, up := made(t, star, number), made(t, number, star)
		for i, f := range []impl.Form{made(t, []impl.Form{down}, number), made(t, number, []impl.Form{up})} {
			name := fmt.Sprintf("game %d beside %v", i, d)
			wantEqualToNone(t, name, f)
			wantFit(t, name, f, d, false)
			for _, x := range numbers(t, "0 1/65536 -1/65536 119 -119") {
				wantFit(t, name, f, x, false)
			}
		}
	}
}

func TestP7NumbersCompareAsTheirValues(t *testing.T) {
	all := append(smallDyadics(2, 2), numbers(t, "119 -119 235/2 -235/2 1/65536 -1/65536 999999/65536 -999999/65536 860161/8192")...)
	for _, a := range all {
		for _, b := range all {
			want := ints(impl.OutRight, impl.OutSecond, impl.OutLeft)[valueOf(a).Cmp(valueOf(b))+1]
			wantAgainst(t, fmt.Sprint("the game of ", a), numberForm(t, a), b, want)
		}
	}
}

// A switch is confused with its ends and what is between.
func TestP7SwitchesAgainstNumbers(t *testing.T) {
	ends := numbers(t, "-3 -2 -5/4 -1/2 0 3/8 1 7/2")
	for _, high := range ends {
		for _, low := range ends {
			if valueOf(high).Cmp(valueOf(low)) < 0 {
				continue
			}
			f, name := switchOf(t, high, low), fmt.Sprintf("a switch of %v and %v", high, low)
			wantEqualToNone(t, name, f)
			for _, d := range smallDyadics(4, 4) {
				switch {
				case valueOf(d).Cmp(valueOf(low)) < 0:
					wantAgainst(t, name, f, d, impl.OutLeft)
				case valueOf(d).Cmp(valueOf(high)) > 0:
					wantAgainst(t, name, f, d, impl.OutRight)
				default:
					wantAgainst(t, name, f, d, impl.OutFirst)
				}
			}
		}
	}
}

func TestP7KnownComparisons(t *testing.T) {
	classes := map[string]int{"left": impl.OutLeft, "right": impl.OutRight, "first": impl.OutFirst, "second": impl.OutSecond}
	all := numbers(t, "-1 -1/65536 0 1/65536 1")
	for game, list := range map[string]string{
		"0": "left left second right right", "{*|}": "left left second right right", "*": "left left first right right", "^": "left left left right right", "v": "left left right right right", "{0,*|0}": "left left first right right", "{1|-1}": "first first first first first",
		"{1|1}": "left left left left first", "{-1|-1}": "first right right right right", "{1|*}": "left left left first first", "{2|{0|-1}}": "left left left first first", "{0|{0|-1}}": "left left left right right", "{{1|0}|0}": "left left right right right", "{1|0}": "left left first first first",
	} {
		for i, class := range strings.Fields(list) {
			wantAgainst(t, game, short(t, game), all[i], classes[class])
		}
	}
}

func TestP7KnownSums(t *testing.T) {
	for _, c := range []struct{ game, number, sum string }{
		{"0", "0", "0"}, {"0", "1", "1"}, {"0", "-1/2", "{-1|0}"}, {"1", "1", "2"}, {"1", "-1", "0"}, {"1", "-1/2", "{0|1}"}, {"{0|1}", "1/2", "1"}, {"{0|1}", "-1/4", "{0|{0|1}}"}, {"2", "-4", "-2"},
		{"{0,1|}", "0", "2"}, {"{*|}", "2", "2"}, {"{*|*}", "3/2", "{1|2}"}, {"{{2|1}|}", "-1", "0"}, {"{-1|1}", "-3/4", "{-1|{-1|0}}"},
		{"{1|-1}", "1", "{2|0}"}, {"{2|0}", "-1", "{1|-1}"}, {"{1|-1}", "0", "{1|-1}"}, {"{1|0}", "-1", "{0|-1}"}, {"{1|0}", "-1/2", "{{0|1}|{-1|0}}"}, {"*", "1", "{1|1}"}, {"{1|1}", "-1", "*"}, {"*", "-1/2", "{{-1|0}|{-1|0}}"}, {"{0,1|1}", "-2", "{-1|-1}"},
		{"^", "0", "^"}, {"{0,-1|*}", "0", "^"}, {"^", "1", "{1|{1|1}}"}, {"v", "-1", "{{-1|-1}|-1}"}, {"{0|{0|-1}}", "1", "{1|{1|0}}"},
	} {
		for _, d := range numbers(t, c.number) {
			f, want := short(t, c.game), short(t, c.sum)
			wantPlus(t, c.game, f, d, want)
			wantPlus(t, "the negative of "+c.game, negated(t, f), minus(d), negated(t, want))
		}
	}
}

// wantPlusAsCanonSum follows the steps of the document, and returns whether they succeed.
func wantPlusAsCanonSum(t *testing.T, name string, f impl.Form, d impl.Dyadic) bool {
	t.Helper()
	want, ok := canonSumOf([]impl.Form{f, numberForm(t, d)})
	sum, fine := impl.CanonSum([]impl.Form{f, numberForm(t, d)})
	if !ok {
		wantNoForm(t, "CanonSum of "+name, sum, fine)
		wantNoPlus(t, name, f, d)
		return false
	}
	wantForm(t, "CanonSum of "+name, sum, fine, want)
	wantPlus(t, name, f, d, want)
	return true
}

func TestP7SumsOfNumbers(t *testing.T) {
	all := append(smallDyadics(2, 2), numbers(t, "5 -5 39 -39 9/8 -65/16 1/1024")...)
	good := map[bool]int{}
	for _, a := range all {
		for _, b := range all {
			f, name := numberForm(t, a), fmt.Sprint("the game of ", a)
			ok := wantPlusAsCanonSum(t, name, f, b)
			good[ok]++
			if sum, valid := impl.AddDyadic(a, b); ok && valid {
				wantPlus(t, name, f, b, numberForm(t, sum))
			}
		}
	}
	if good[true] < 300 || good[false] < 30 {
		t.Error("too few sums that succeed or fail", good)
	}
}

func TestP7LimitsOfSums(t *testing.T) {
	for _, c := range []struct {
		game, number string
		good         bool
	}{
		// One pair of nodes more than 1600, and one node more than 120.
		{"39", "39", true}, {"39", "40", false}, {"40", "39", false}, {"0", "119", true}, {"119", "0", true}, {"1", "118", true}, {"118", "1", true}, {"1", "119", false}, {"119", "1", false},
		{"9", "-9", true}, {"10", "-10", false}, {"39", "-2", true}, {"39", "-3", false}, {"2", "-39", true}, {"3", "-39", false}, {"119", "-1", false}, {"1", "-59", true}, {"1", "-60", false},
		{"*", "59", true}, {"*", "60", false}, {"{1|-1}", "38", true}, {"{1|-1}", "39", false}, {"{*|*}", "119", true}, {"{|*}", "119", true},
	} {
		var f impl.Form
		if strings.ContainsAny(c.game, "*|") {
			f = short(t, c.game)
		} else {
			f = numberForm(t, numbers(t, c.game)[0])
		}
		d := numbers(t, c.number)[0]
		for _, g := range []impl.Form{f, negated(t, f)} {
			wantBool(t, fmt.Sprintf("PlusNumber of %s and %v", c.game, d), wantPlusAsCanonSum(t, c.game, g, d), true, c.good)
			d = minus(d)
		}
	}
	f, ok := impl.PlusNumber(nimber(1), dyadic(59, 0))
	wantForm(t, "PlusNumber of * and 59", f, ok, switchOf(t, dyadic(59, 0), dyadic(59, 0)))
	wantPlus(t, "39", integer(39), dyadic(39, 0), integer(78))
	wantPlus(t, "a ladder of value 0", ladderOf(119), dyadic(119, 0), integer(119))
	wantPlus(t, "a ladder of value *", ladderOf(120), dyadic(59, 0), f)
	none, _, _ := wide(t, 23, 24)
	wantNoPlus(t, "a game without canonical form", none, dyadic(0, 0))
	wantNoPlus(t, "a game without canonical form", none, dyadic(1, 0))
}

func TestP7SumsOfMixedGames(t *testing.T) {
	l := newLine()
	good := map[bool]int{}
	for i, f := range append(append(plainForms(plainDay2()), sample()...), crowded(t, 60)...) {
		for _, d := range numbers(t, "0 1 -2 1/2 -11/8 30") {
			name := fmt.Sprint("game ", i)
			ok := wantPlusAsCanonSum(t, name, f, d)
			good[ok]++
			g, _ := impl.PlusNumber(f, d)
			if i%5 == 0 && ok && bornOn(d) < 6 {
				l.want(t, name, g, ok, l.canon(l.sum(l.read(f), l.number(d))))
			}
			x, is := impl.NumberOf(f)
			if sum, valid := impl.AddDyadic(x, d); is && ok && valid {
				wantEqualTo(t, name+" and a number", g, sum)
			} else if !is && ok {
				wantEqualToNone(t, name+" and a number", g)
			}
		}
	}
	if good[true] < 1500 || good[false] < 50 {
		t.Error("too few sums that succeed or fail", good)
	}
}

func wantNothingOfNumbers(t *testing.T, name string, bad impl.Form) {
	t.Helper()
	x, ok := impl.NumberOf(bad)
	wantNoDyadic(t, "NumberOf "+name, x, ok)
	x, ok = impl.SimplestFor(bad)
	wantNoDyadic(t, "SimplestFor "+name, x, ok)
	whole, ok := impl.IsWhole(bad)
	wantNoBool(t, "IsWhole "+name, whole, ok)
	for _, d := range append(numbers(t, "0 1 -1 1/2 119 -119 1/65536 120"), dyadic(2, 1), dyadic(1, 17), dyadic(0, -1)) {
		fits, ok := impl.FitsNumber(bad, d)
		wantNoBool(t, "FitsNumber of "+name, fits, ok)
		n, ok := impl.CompareNumber(bad, d)
		wantNoInt(t, "CompareNumber of "+name, n, ok)
		wantNoPlus(t, name, bad, d)
	}
}

func TestP7InvalidForms(t *testing.T) {
	for name, bad := range invalidForms() {
		wantNothingOfNumbers(t, name, bad)
	}
}

func TestP7NilAndEmpty(t *testing.T) {
	for _, zero := range []impl.Form{formOf(node(nil, nil)), formOf(node(ints(), ints())), formOf(node(nil, ints())), formOf(node(ints(), nil))} {
		wantEqualTo(t, "0", zero, dyadic(0, 0))
		wantFit(t, "0", zero, dyadic(-7, 1), true)
		wantPlus(t, "0", zero, dyadic(1, 1), short(t, "{0|1}"))
		one, minusOne := formOf(zero.Nodes[0], node(ints(0), ints())), formOf(zero.Nodes[0], node(ints(), ints(0)))
		wantEqualTo(t, "1", one, dyadic(1, 0))
		wantEqualTo(t, "-1", minusOne, dyadic(-1, 0))
		wantPlus(t, "1", one, dyadic(-1, 0), zeroGame())
		wantAgainst(t, "1", one, dyadic(1, 1), impl.OutLeft)
		wantEqualTo(t, "{*|}", formOf(zero.Nodes[0], node(ints(0), ints(0)), node(ints(1), ints())), dyadic(0, 0))
		wantEqualToNone(t, "*", formOf(zero.Nodes[0], node(ints(0), ints(0))))
	}
	for _, none := range []impl.Form{{}, {Nodes: []impl.Node{}}, {Nodes: make([]impl.Node, 0, 3)}} {
		wantNothingOfNumbers(t, "no nodes", none)
	}
}

// resultsOfNumbers has what each function of the chapter returns for f, and all that is no form as one text.
func resultsOfNumbers(f impl.Form, l ...impl.Dyadic) (map[string]impl.Form, string) {
	forms := map[string]impl.Form{}
	x, is := impl.NumberOf(f)
	y, fits := impl.SimplestFor(f)
	whole, ok := impl.IsWhole(f)
	all := []any{x, is, y, fits, whole, ok}
	for _, d := range l {
		fits, ok := impl.FitsNumber(f, d)
		n, fine := impl.CompareNumber(f, d)
		all = append(all, fits, ok, n, fine)
		forms[fmt.Sprint("NumberForm of ", d)], ok = impl.NumberForm(d)
		forms[fmt.Sprint("PlusNumber of ", d)], fine = impl.PlusNumber(f, d)
		all = append(all, ok, fine)
	}
	return forms, fmt.Sprint(all...)
}

func wantResultsOfNumbers(t *testing.T, name string, forms map[string]impl.Form, rest string, f impl.Form, l ...impl.Dyadic) {
	t.Helper()
	plain, plainRest := resultsOfNumbers(copied(f), l...)
	for function, want := range plain {
		if !sameNodes(forms[function], want) {
			t.Errorf("%s with %s = %v, want %v", function, name, forms[function], want)
		}
	}
	if rest != plainRest {
		t.Errorf("the results for %s are %s, want %s", name, rest, plainRest)
	}
}

func TestP30NumbersModifyNoArgument(t *testing.T) {
	l := numbers(t, "0 2 -3/4 120")
	for i, want := range append(append(plainForms(plainDay2()), sample()...), crowded(t, 50)...) {
		f := withSpare(want)
		forms, rest := resultsOfNumbers(f, l...)
		wantResultsOfNumbers(t, fmt.Sprint("game ", i, " with spare elements"), forms, rest, want, l...)
		wantSpare(t, "a function of numbers", f, want)
	}
}

func TestP30NumbersShareNoMemory(t *testing.T) {
	l := numbers(t, "0 2 -3/4")
	for i, want := range append(append(plainForms(plainDay2()), sample()...), crowded(t, 50)...) {
		f := copied(want)
		forms, rest := resultsOfNumbers(f, l...)
		spoil(f)
		wantResultsOfNumbers(t, fmt.Sprint("game ", i, " after it was changed"), forms, rest, want, l...)
		f = copied(want)
		forms, _ = resultsOfNumbers(f, l...)
		for _, result := range forms {
			spoil(result)
		}
		wantForm(t, "the game after the results were changed", f, true, want)
		forms, rest = resultsOfNumbers(f, l...)
		wantResultsOfNumbers(t, fmt.Sprint("game ", i, " after results were changed"), forms, rest, want, l...)
	}
}

func TestP30ListsOfOneNumberShareNoMemory(t *testing.T) {
	for _, d := range append(smallDyadics(3, 4), numbers(t, "119 -119 999999/65536 -999999/65536 860161/8192")...) {
		wantOwnLists(t, fmt.Sprint("the form of ", d), numberForm(t, d))
	}
	for i, f := range append(plainForms(plainDay2()), sample()...) {
		for _, d := range numbers(t, "0 1 -3/4") {
			g, _ := impl.PlusNumber(f, d)
			wantOwnLists(t, fmt.Sprintf("PlusNumber of game %d and %v", i, d), g)
		}
	}
}

func TestP30NumbersReturnForAll(t *testing.T) {
	var strange []impl.Dyadic
	for _, top := range append(extremeInts(), 0, 1, -1, 2, 119, -120, 1000000, 1000001) {
		for _, pow := range append(extremeInts(), 0, 1, -1, 16, 17, 63, 64) {
			strange = append(strange, dyadic(top, pow))
		}
	}
	forms := strangeForms()
	for i, f := range forms {
		func() {
			defer noPanic(t, fmt.Sprint(f))
			resultsOfNumbers(f, strange[i%len(strange)], strange[(i*5+2)%len(strange)])
		}()
	}
	for _, d := range strange {
		func() {
			defer noPanic(t, fmt.Sprint(d))
			resultsOfNumbers(nimber(1), d)
			resultsOfNumbers(impl.Form{}, d)
		}()
	}
}

// tallOf has a tangle above integers and the last one of them among its left options, so that many numbers are tried.
func tallOf(integers int, options int, seed int) impl.Form {
	f := chainOf(integers)
	f.Nodes = append(f.Nodes, tangleOf(mostNodes, options, seed).Nodes[integers:]...)
	last := mostNodes - 1
	f.Nodes[last].Left = ints(integers-1, last-1)
	return f
}

func TestP30NumbersOfLargestGames(t *testing.T) {
	forms := append(longest(), ladderOf(mostNodes-1))
	for seed := range 20 {
		forms = append(forms, tangleOf(mostNodes, mostOptions+1, seed+1))
		for _, integers := range ints(60, 90, 118) {
			forms = append(forms, tallOf(integers, 1+seed, seed+1))
		}
	}
	inTime(t, "the numbers of the largest games", func() {
		for i, f := range forms {
			if !impl.GoodForm(f) {
				t.Error("large game", i, "is invalid")
			}
			d, ok := impl.NumberOf(f)
			if x, fine := impl.SimplestFor(f); x != d || fine != ok {
				t.Errorf("SimplestFor large game %d = %v, %v, but NumberOf = %v, %v", i, x, fine, d, ok)
			}
			resultsOfNumbers(f, dyadic(119, 0), dyadic(999999, 16))
		}
	})
}

func TestP30NumbersKeepNoState(t *testing.T) {
	for range 2 {
		wantEqualTo(t, "{1|2}", short(t, "{1|2}"), dyadic(3, 1))
		wantNothingOfNumbers(t, "no game", impl.Form{})
		wantEqualToNone(t, "{1|-1}", short(t, "{1|-1}"))
		wantNoNumberForm(t, dyadic(120, 0))
		wantPlus(t, "{1|-1}", short(t, "{1|-1}"), dyadic(1, 0), short(t, "{2|0}"))
		wantNoPlus(t, "39", integer(39), dyadic(40, 0))
		wantEqualTo(t, "119", integer(119), dyadic(119, 0))
		wantAgainst(t, "{1|-1}", short(t, "{1|-1}"), dyadic(1, 0), impl.OutFirst)
		wantEqualTo(t, "0", zeroGame(), dyadic(0, 0))
	}
}
