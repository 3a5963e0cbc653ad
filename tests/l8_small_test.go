package tests

import (
	"fmt"
	"slices"
	"strings"
	"testing"

	"loop.example/g00868/impl"
)

const (
	mostStar = 15
	mostUps  = 12
)

// A gallery has the sums of ups and stars among other games by the document's words, without forms and limits.
type gallery struct {
	*line
	sums map[int][2]int
}

func newGallery() *gallery {
	g := &gallery{line: newLine(), sums: map[int][2]int{}}
	for _, s := range allSums() {
		g.sums[g.canon(g.sum(g.ups(s[0]), g.star(s[1])))] = s
	}
	for _, d := range append(numbersBorn(7), smallDyadics(40, 0)...) {
		g.number(d)
	}
	return g
}

func allSums() [][2]int {
	var all [][2]int
	for n := -mostUps; n <= mostUps; n++ {
		for star := range mostStar + 1 {
			all = append(all, [2]int{n, star})
		}
	}
	return all
}

func (g *gallery) star(n int) int {
	var all []int
	for range n + 1 {
		all = append(all, g.enter(all, all))
	}
	return all[n]
}

func (g *gallery) ups(n int) int {
	sum, up := g.star(0), g.enter(ints(g.star(0)), ints(g.star(1)))
	for range max(n, -n) {
		sum = g.sum(sum, up)
	}
	if n < 0 {
		return g.negative(sum)
	}
	return sum
}

func (g *gallery) allSmall(a int) bool {
	return !slices.ContainsFunc(g.parts(a), func(part int) bool {
		return (len(g.games[part][0]) == 0) != (len(g.games[part][1]) == 0)
	})
}

func (g *gallery) ends(a int) (impl.Dyadic, impl.Dyadic, bool) {
	lists := g.games[a]
	if len(lists[0]) != 1 || len(lists[1]) != 1 {
		return impl.Dyadic{}, impl.Dyadic{}, false
	}
	high, ok := g.values[lists[0][0]]
	low, fine := g.values[lists[1][0]]
	return high, low, ok && fine && valueOf(high).Cmp(valueOf(low)) >= 0
}

func starForm(t *testing.T, n int) impl.Form {
	t.Helper()
	f, ok := impl.StarForm(n)
	if !ok {
		t.Fatalf("StarForm(%d) fails", n)
	}
	return f
}

func upsForm(t *testing.T, n int, star int) impl.Form {
	t.Helper()
	f, ok := impl.UpsForm(n, star)
	if !ok {
		t.Fatalf("UpsForm(%d, %d) fails", n, star)
	}
	return f
}

func wantUpsForm(t *testing.T, n int, star int, want impl.Form) {
	t.Helper()
	f, ok := impl.UpsForm(n, star)
	wantForm(t, fmt.Sprintf("UpsForm(%d, %d)", n, star), f, ok, want)
}

func wantNoUpsForm(t *testing.T, n int, star int) {
	t.Helper()
	f, ok := impl.UpsForm(n, star)
	wantNoForm(t, fmt.Sprintf("UpsForm(%d, %d)", n, star), f, ok)
}

func wantNoStar(t *testing.T, name string, f impl.Form) {
	t.Helper()
	n, ok := impl.StarOf(f)
	wantNoInt(t, "StarOf "+name, n, ok)
}

// wantUps checks both functions that tell which sum of ups and a star a game is equal to.
func wantUps(t *testing.T, name string, f impl.Form, n int, star int) {
	t.Helper()
	if ups, nim, ok := impl.UpsOf(f); ups != n || nim != star || !ok {
		t.Errorf("UpsOf %s = %d, %d, %v, want %d, %d, true", name, ups, nim, ok, n, star)
	}
	if n != 0 {
		wantNoStar(t, name, f)
	} else if nim, ok := impl.StarOf(f); nim != star || !ok {
		t.Errorf("StarOf %s = %d, %v, want %d, true", name, nim, ok, star)
	}
}

func wantNoUps(t *testing.T, name string, f impl.Form) {
	t.Helper()
	if n, star, ok := impl.UpsOf(f); n != 0 || star != 0 || ok {
		t.Errorf("UpsOf %s = %d, %d, %v, want 0, 0, false", name, n, star, ok)
	}
	wantNoStar(t, name, f)
}

func wantSwitch(t *testing.T, name string, f impl.Form, high impl.Dyadic, low impl.Dyadic) {
	t.Helper()
	if a, b, ok := impl.SwitchOf(f); a != high || b != low || !ok {
		t.Errorf("SwitchOf %s = %v, %v, %v, want %v, %v, true", name, a, b, ok, high, low)
	}
}

func wantNoSwitch(t *testing.T, name string, f impl.Form) {
	t.Helper()
	if a, b, ok := impl.SwitchOf(f); a != (impl.Dyadic{}) || b != (impl.Dyadic{}) || ok {
		t.Errorf("SwitchOf %s = %v, %v, %v, want zero values and false", name, a, b, ok)
	}
}

func wantNoSwitchForm(t *testing.T, a impl.Dyadic, b impl.Dyadic) {
	t.Helper()
	f, ok := impl.SwitchForm(a, b)
	wantNoForm(t, fmt.Sprintf("SwitchForm(%v, %v)", a, b), f, ok)
}

func wantSmall(t *testing.T, name string, f impl.Form, want bool) {
	t.Helper()
	small, ok := impl.IsAllSmall(f)
	wantBool(t, "IsAllSmall "+name, small, ok, want)
}

// wantKinds checks a game by the document's words, and counts what it is.
func (g *gallery) wantKinds(t *testing.T, name string, f impl.Form, counts map[string]int) {
	t.Helper()
	a := g.canon(g.read(f))
	if s, is := g.sums[a]; is {
		wantUps(t, name, f, s[0], s[1])
		counts["ups"]++
	} else {
		wantNoUps(t, name, f)
	}
	if high, low, is := g.ends(a); is {
		wantSwitch(t, name, f, high, low)
		counts["switch"]++
	} else {
		wantNoSwitch(t, name, f)
	}
	wantSmall(t, name, f, g.allSmall(a))
	if g.allSmall(a) {
		counts["small"]++
	}
	counts["all"]++
}

func TestP8Limits(t *testing.T) {
	if impl.MaxStar != mostStar || impl.MaxUps != mostUps {
		t.Error("limits", impl.MaxStar, impl.MaxUps)
	}
}

func TestP8KnownForms(t *testing.T) {
	for n, text := range []string{"{|}", "{{|}|{|}}", "{{|},{{|}|{|}}|{|},{{|}|{|}}}", "{{|},{{|}|{|}},{{|},{{|}|{|}}|{|},{{|}|{|}}}|{|},{{|}|{|}},{{|},{{|}|{|}}|{|},{{|}|{|}}}}"} {
		f, ok := impl.StarForm(n)
		wantForm(t, fmt.Sprint("StarForm of ", n), f, ok, read(t, text))
		wantUpsForm(t, 0, n, read(t, text))
	}
	for _, c := range []struct {
		n, star int
		text    string
	}{
		{1, 0, "{{|}|{{|}|{|}}}"}, {-1, 0, "{{{|}|{|}}|{|}}"},
		{1, 1, "{{|},{{|}|{|}}|{|}}"}, {-1, 1, "{{|}|{|},{{|}|{|}}}"},
		{2, 0, "{{|}|{{|},{{|}|{|}}|{|}}}"}, {-2, 0, "{{{|}|{|},{{|}|{|}}}|{|}}"},
		{2, 1, "{{|}|{{|}|{{|}|{|}}}}"}, {-2, 1, "{{{{|}|{|}}|{|}}|{|}}"},
		{1, 3, "{{|}|{{|},{{|}|{|}}|{|},{{|}|{|}}}}"}, {-1, 3, "{{{|},{{|}|{|}}|{|},{{|}|{|}}}|{|}}"},
		{2, 2, "{{|}|{{|}|{{|},{{|}|{|}}|{|},{{|}|{|}}}}}"}, {-2, 2, "{{{{|},{{|}|{|}}|{|},{{|}|{|}}}|{|}}|{|}}"},
		{3, 0, "{{|}|{{|}|{{|}|{{|}|{|}}}}}"}, {3, 1, "{{|}|{{|}|{{|},{{|}|{|}}|{|}}}}"},
	} {
		wantUpsForm(t, c.n, c.star, read(t, c.text))
	}
}

func TestP8Stars(t *testing.T) {
	g := newGallery()
	for n := range mostStar + 1 {
		f, ok := impl.StarForm(n)
		name := fmt.Sprint("StarForm of ", n)
		wantForm(t, name, f, ok, nimber(n))
		g.want(t, name, f, ok, g.star(n))
		var before []impl.Form
		for k := range n {
			before = append(before, starForm(t, k))
		}
		wantForm(t, name, f, ok, made(t, before, before))
		wantForm(t, "the negative of "+name, negated(t, f), true, f)
		wantCanonical(t, name, f)
		wantUps(t, name, f, 0, n)
		if born, ok := impl.BornOf(f); born != n || !ok {
			t.Errorf("BornOf %s = %d, %v", name, born, ok)
		}
	}
}

func TestP8SumsOfUpsAndAStar(t *testing.T) {
	g := newGallery()
	if len(g.sums) != 400 {
		t.Error(len(g.sums), "sums of ups and a star")
	}
	for number, s := range g.sums {
		f, ok := impl.UpsForm(s[0], s[1])
		name := fmt.Sprintf("UpsForm(%d, %d)", s[0], s[1])
		g.want(t, name, f, ok, number)
		if !g.fits(number) {
			t.Error(name, "is beyond the limits")
		}
		wantForm(t, "the negative of "+name, negated(t, f), true, upsForm(t, -s[0], s[1]))
		wantUps(t, name, f, s[0], s[1])
		wantSmall(t, name, f, true)
		is, ok := impl.IsCanon(f)
		wantBool(t, "IsCanon "+name, is, ok, true)
	}
}

// Right makes * of an up, and Left has no move but the one to 0. Only up plus star has other options.
func TestP8UpsByTheirOptions(t *testing.T) {
	zero := []impl.Form{zeroGame()}
	for n := 1; n <= mostUps; n++ {
		for star := range mostStar + 1 {
			if n == 1 && star == 1 {
				continue
			}
			wantUpsForm(t, n, star, made(t, zero, []impl.Form{upsForm(t, n-1, star^1)}))
			wantUpsForm(t, -n, star, made(t, []impl.Form{upsForm(t, 1-n, star^1)}, zero))
		}
	}
}

func TestP8UpPlusStar(t *testing.T) {
	up, star := upsForm(t, 1, 0), starForm(t, 1)
	both := short(t, "{0,*|0}")
	wantUpsForm(t, 1, 1, both)
	wantUpsForm(t, -1, 1, short(t, "{0|0,*}"))
	wantCanonSum(t, "up and *", upsForm(t, 1, 1), up, star)
	wantCanonSum(t, "down and *", upsForm(t, -1, 1), upsForm(t, -1, 0), star)
	wantCanonSum(t, "up, * and *", up, upsForm(t, 1, 1), star)
	wantCanonSum(t, "up and * twice", upsForm(t, 2, 0), both, both)
	wantCanonical(t, "up and *", both)
	wantOutcome(t, "up and *", both, impl.OutFirst)
	wantOrder(t, "up and *, and *", both, star, impl.OutLeft)
	wantOrder(t, "up and *, and up", both, up, impl.OutFirst)
	for _, game := range strings.Fields("{0,*|0} {*,^|^,{*|*}} {0,*,^|0} {0,-1,*|0,1} {0,*,v|0} {0,*|0,{1|-1}} {0,*,{*|*}|{*|*}}") {
		wantUps(t, game, short(t, game), 1, 1)
		wantUps(t, "the negative of "+game, negated(t, short(t, game)), -1, 1)
	}
	// These are near to it, but something else.
	for game, s := range map[string][2]int{"{0|0}": {0, 1}, "{0|*}": {1, 0}, "{0|^}": {2, 1}, "{0,*|0,*}": {0, 2}, "{*|0}": {-1, 0}, "{*|*}": {0, 0}} {
		wantUps(t, game, short(t, game), s[0], s[1])
	}
	for _, game := range strings.Fields("{0,1|0} {0,*|-1} {1,*|0} {0,*|{0|-1}} {0,{1|0}|0}") {
		wantNoUps(t, game, short(t, game))
		wantNoUps(t, "the negative of "+game, negated(t, short(t, game)))
	}
}

func TestP8OutsideTheRanges(t *testing.T) {
	badUps := append(extremeInts(), -13, -14, -100, -120, 13, 14, 100, 120)
	badStars := append(extremeInts(), -1, -2, -15, -16, 16, 17, 24, 25, 31, 100, 120)
	for _, star := range badStars {
		f, ok := impl.StarForm(star)
		wantNoForm(t, fmt.Sprintf("StarForm(%d)", star), f, ok)
		for n := -mostUps; n <= mostUps; n++ {
			wantNoUpsForm(t, n, star)
		}
		for _, n := range badUps {
			wantNoUpsForm(t, n, star)
		}
	}
	for _, n := range badUps {
		for star := range mostStar + 1 {
			wantNoUpsForm(t, n, star)
		}
	}
	for _, n := range ints(-12, -11, 11, 12) {
		for _, star := range ints(0, 1, 14, 15) {
			wantUps(t, fmt.Sprint("the sum ", n, star), upsForm(t, n, star), n, star)
		}
	}
}

// wantSumOfUps checks a sum by the functions of the chapters before, and returns whether they succeed.
func wantSumOfUps(t *testing.T, n int, star int) bool {
	t.Helper()
	part, name := short(t, "^"), fmt.Sprintf("%d times up and %d", n, star)
	if n < 0 {
		part = short(t, "v")
	}
	copies := slices.Repeat([]impl.Form{part}, max(n, -n))
	ups, ok := impl.CanonSum(copies)
	wantBool(t, "CanonSum of copies", ok, ok, true)
	wantUpsForm(t, n, 0, ups)
	if all, ok := impl.SumOfMany(append(copies, nimber(star))); ok {
		wantUps(t, name, all, n, star)
		wantCanon(t, name, all, upsForm(t, n, star))
	}
	sum, ok := impl.CanonSum([]impl.Form{ups, nimber(star)})
	if ok {
		wantUpsForm(t, n, star, sum)
	}
	return ok
}

func TestP8UpsAsSumsOfCopies(t *testing.T) {
	good := map[bool]int{}
	for _, s := range allSums() {
		good[wantSumOfUps(t, s[0], s[1])]++
	}
	if good[true] < 250 {
		t.Error("too few sums that succeed", good)
	}
}

func TestP8StarsAddByExclusiveOr(t *testing.T) {
	good := 0
	for a := range mostStar + 1 {
		for b := range mostStar + 1 {
			name := fmt.Sprintf("*%d and *%d", a, b)
			wantOrder(t, name, starForm(t, a), starForm(t, b), map[bool]int{true: impl.OutSecond, false: impl.OutFirst}[a == b])
			sum, ok := impl.SumForms(starForm(t, a), starForm(t, b))
			if !ok {
				continue
			}
			good++
			wantUps(t, name, sum, 0, a^b)
			wantCanonSum(t, name, starForm(t, a^b), starForm(t, a), starForm(t, b))
			for _, c := range ints(1, 6, 15) {
				if all, ok := impl.CanonSum([]impl.Form{starForm(t, a^b), starForm(t, c)}); ok {
					wantForm(t, fmt.Sprint(name, " and *", c), all, ok, starForm(t, a^b^c))
				}
			}
		}
	}
	if good < 230 {
		t.Error("only", good, "sums of two stars")
	}
}

func TestP8UpsAddByCount(t *testing.T) {
	within, beyond := 0, 0
	for n := -mostUps; n <= mostUps; n++ {
		for m := -mostUps; m <= mostUps; m++ {
			for _, stars := range [][2]int{{0, 0}, {0, 1}, {1, 1}, {1, 2}, {3, 2}} {
				sum, ok := impl.CanonSum([]impl.Form{upsForm(t, n, stars[0]), upsForm(t, m, stars[1])})
				name := fmt.Sprintf("the sum of %d and %d with %v", n, m, stars)
				switch {
				case ok && max(n+m, -n-m) <= mostUps:
					wantForm(t, name, sum, ok, upsForm(t, n+m, stars[0]^stars[1]))
					within++
				case ok:
					wantNoUps(t, name, sum)
					wantSmall(t, name, sum, true)
					beyond++
				}
			}
		}
	}
	if within < 1000 || beyond < 300 {
		t.Error("too few sums within the ranges or beyond them", within, beyond)
	}
}

// Two sums of ups and stars compare by the number of ups, but up and down are confused with *, and stars with each other.
func TestP8OrderOfUps(t *testing.T) {
	for _, a := range allSums() {
		for _, b := range allSums() {
			if (a[0]*31+a[1]*17+b[0]*7+b[1])%11 != 0 {
				continue
			}
			ups, star := a[0]-b[0], a[1]^b[1]
			want := impl.OutFirst
			switch {
			case ups == 0 && star == 0:
				want = impl.OutSecond
			case ups > 0 && (ups > 1 || star != 1):
				want = impl.OutLeft
			case ups < 0 && (ups < -1 || star != 1):
				want = impl.OutRight
			}
			f, h := upsForm(t, a[0], a[1]), upsForm(t, b[0], b[1])
			if n, ok := impl.CompareForms(f, h); n != want || !ok {
				t.Errorf("CompareForms of the sums %v and %v = %d, %v, want %d, true", a, b, n, ok, want)
			}
		}
	}
	for _, s := range allSums() {
		f := upsForm(t, s[0], s[1])
		wantAgainst(t, fmt.Sprint("the sum ", s), f, dyadic(1, 16), impl.OutRight)
		wantAgainst(t, fmt.Sprint("the sum ", s), f, dyadic(-1, 16), impl.OutLeft)
	}
}

// disguised has games that are equal to f, which lies between -low and low, but are not canonical.
func disguised(t *testing.T, f impl.Form, low int) []impl.Form {
	t.Helper()
	left, right, _ := impl.OptionsOf(f)
	lower, higher := append(slices.Clone(left), integer(-low)), append(slices.Clone(right), integer(low))
	l := []impl.Form{made(t, lower, right), made(t, left, higher), made(t, append(lower, integer(-low-1)), append(higher, integer(low+1)))}
	for _, zero := range []impl.Form{short(t, "{*|*}"), short(t, "{-1|1}"), short(t, "{*|}"), added(t, nimber(2), nimber(2))} {
		if sum, ok := impl.SumForms(f, zero); ok {
			l = append(l, sum)
		}
		if g, ok := impl.MakeForm(allAdded(left, zero), allAdded(right, zero)); ok {
			l = append(l, g)
		}
	}
	return slices.DeleteFunc(l, func(g impl.Form) bool { return sameNodes(g, f) })
}

func allAdded(l []impl.Form, zero impl.Form) []impl.Form {
	var sums []impl.Form
	for _, f := range l {
		sum, _ := impl.SumForms(f, zero)
		sums = append(sums, sum)
	}
	return sums
}

func TestP8SumsThatAreNotCanonical(t *testing.T) {
	checked := 0
	for _, s := range allSums() {
		for i, g := range disguised(t, upsForm(t, s[0], s[1]), 1) {
			name := fmt.Sprintf("the sum %v in disguise %d", s, i)
			wantUps(t, name, g, s[0], s[1])
			wantSmall(t, name, g, true)
			if s == [2]int{0, 1} {
				wantSwitch(t, name, g, impl.Dyadic{}, impl.Dyadic{})
			} else {
				wantNoSwitch(t, name, g)
			}
			checked++
		}
	}
	if checked < 2000 {
		t.Error("only", checked, "games")
	}
}

func TestP8UpsAndStarsBeyondTheRanges(t *testing.T) {
	zero := []impl.Form{zeroGame()}
	for star := range mostStar + 1 {
		f := upsForm(t, mostUps, star)
		for n := mostUps + 1; n <= 2*mostUps; n++ {
			f = made(t, zero, []impl.Form{f})
			for i, g := range []impl.Form{f, negated(t, f), added(t, f, short(t, "{*|*}"))} {
				name := fmt.Sprintf("%d ups above *%d (%d)", n, star, i)
				wantNoUps(t, name, g)
				wantNoSwitch(t, name, g)
				wantSmall(t, name, g, true)
			}
		}
	}
	for star := mostStar + 1; star <= mostOptions; star++ {
		f := nimber(star)
		for n := range 2 * mostUps {
			for i, g := range []impl.Form{f, negated(t, f)} {
				name := fmt.Sprintf("%d ups above *%d (%d)", n, star, i)
				wantNoUps(t, name, g)
				wantNoSwitch(t, name, g)
				wantSmall(t, name, g, true)
			}
			f = made(t, zero, []impl.Form{f})
		}
	}
	wantUps(t, "{0|*14}", made(t, zero, []impl.Form{nimber(14)}), 1, 15)
	wantUps(t, "{0|*15}", made(t, zero, []impl.Form{nimber(15)}), 1, 14)
}

// neighbours has games that share all but an option or two with f, or have it as an option.
func neighbours(t *testing.T, f impl.Form) []impl.Form {
	t.Helper()
	l := func(forms ...impl.Form) []impl.Form { return forms }
	zero, star, two, up := zeroGame(), nimber(1), nimber(2), short(t, "^")
	return []impl.Form{
		made(t, l(zero), l(f)), made(t, l(f), l(zero)), made(t, l(star), l(f)), made(t, l(f), l(f)), made(t, l(zero, star), l(f)), made(t, l(zero), l(zero, f)), made(t, l(zero, f), l(zero)),
		made(t, l(zero), l(star, f)), made(t, l(two), l(f)), made(t, l(zero, two), l(f)), made(t, l(zero, up), l(f)), made(t, l(zero, f), l(zero, star)), made(t, l(f, star), l(f, zero)),
		made(t, l(f), nil), made(t, nil, l(f)), made(t, l(f), l(integer(-1))), made(t, l(integer(1)), l(f)), made(t, l(zero), l(made(t, l(zero), l(f)))), made(t, l(f), l(negated(t, f))),
	}
}

func TestP8NeighboursOfSums(t *testing.T) {
	g, counts := newGallery(), map[string]int{}
	for i, s := range allSums() {
		if i%3 > 0 && s[1] > 3 {
			continue
		}
		for k, f := range neighbours(t, upsForm(t, s[0], s[1])) {
			g.wantKinds(t, fmt.Sprintf("neighbour %d of %v", k, s), f, counts)
		}
	}
	if counts["ups"] < 500 || counts["small"]-counts["ups"] < 500 || counts["all"]-counts["small"] < 200 {
		t.Error("too few games of a kind", counts)
	}
}

func TestP8EveryGameOfDay2(t *testing.T) {
	g, counts := newGallery(), map[string]int{}
	for i, f := range plainForms(plainDay2()) {
		g.wantKinds(t, fmt.Sprint("game ", i), f, counts)
	}
	if counts["ups"] < 30 || counts["switch"] < 30 || counts["small"] < counts["ups"] || counts["all"]-counts["small"] < 30 {
		t.Error("too few games of a kind", counts)
	}
}

func TestP8MixedGames(t *testing.T) {
	g, counts := newGallery(), map[string]int{}
	for i, f := range append(sample(), crowded(t, 500)...) {
		g.wantKinds(t, fmt.Sprint("mixed game ", i), f, counts)
	}
	for nodes := 3; nodes <= 40; nodes++ {
		for i, f := range tangles(nodes, 10) {
			g.wantKinds(t, fmt.Sprintf("tangle %d of %d nodes", i, nodes), f, counts)
		}
	}
	if counts["ups"] < 50 || counts["switch"] < 30 || counts["small"] < 60 || counts["all"]-counts["small"] < 300 {
		t.Error("too few games of a kind", counts)
	}
}

// smalls are all small as they are written.
func smalls(t *testing.T, count int) []impl.Form {
	t.Helper()
	l := []impl.Form{zeroGame(), nimber(1)}
	for step := 3; len(l) < count; {
		var lists [2][]impl.Form
		for side := range lists {
			step = step * 48271 % 2147483647
			for range 1 + step/64%4 {
				step = step * 48271 % 2147483647
				lists[side] = append(lists[side], l[max(0, len(l)-40)+step/64%min(len(l), 40)])
			}
		}
		if f := made(t, lists[0], lists[1]); len(f.Nodes) <= 30 {
			l = append(l, f)
		} else {
			l = append(l, nimber(step/64%4))
		}
	}
	return l
}

// The options of a canonical form are equal to subpositions of the game, and so no game that is all small as it is written has a canonical form that is not.
func TestP8AllSmallAsWritten(t *testing.T) {
	g, counts := newGallery(), map[string]int{}
	for i, f := range smalls(t, 600) {
		name := fmt.Sprint("small game ", i)
		if !g.allSmall(g.read(f)) {
			t.Fatal(name, "is not all small as it is written")
		}
		wantSmall(t, name, f, true)
		g.wantKinds(t, name, f, counts)
	}
	if counts["small"] != counts["all"] || counts["ups"] < 100 || counts["all"]-counts["ups"] < 100 {
		t.Error("too few games of a kind", counts)
	}
}

func TestP8AllSmall(t *testing.T) {
	for _, c := range []struct {
		games       string
		small, asIs bool
	}{
		{"0 * ^ v {0,*|0} {0|0,*} {0|^} {v|0} {0,*|0,*} {^|v} {0,^|0} {*,^|v} {0,*|{0,*|0,*}}", true, true},
		{"{*|*} {^|^} {v|v} {{*|*}|{*|*}} {0,v|*} {0,{*|*}|0,{*|*}}", true, true},
		// The canonical form is all small, and the game as it is written is not.
		{"{*|} {|*} {-1|} {|1} {-1|1} {-2|2} {0,-1|*} {0,-1|0} {0|0,1} {0,-1|0,1} {{*|}|*} {*|{-1|1}} {{*|}|{|*}} {0,{1|-1}|0,{1|-1}} {0|{0,-1|0,1}} {{{-1|}|{|1}}|{0|0,1}} {{2|0}|{0|-2}} {{1|{0|-1}}|0}", true, false},
		// A game with options of one player only.
		{"1 -1 2 -2 {0,1|} {|0,-1} {^|} {|v} {0,*|}", false, false},
		// A subposition with options of one player only.
		{"{0|1} {-1|0} {1|2} {1|-1} {1|0} {0|-1} {1|1} {-1|-1} {1|*} {*|-1} {0|{0|-1}} {{1|0}|0} {^|-1} {1|v} {1,{2|0}|-1} {0|{0|{0|-1}}} {{{1|0}|0}|0} {0|{0|{0|-2}}} {0,*|{0|-1}} {0,{1|0}|0} {0|0,{0|-1}} {0,{1|-1}|-1} {1,{1|-1}|0}", false, false},
	} {
		for _, game := range strings.Fields(c.games) {
			g, f := gallery{line: newLine()}, short(t, game)
			if a := g.read(f); g.allSmall(a) != c.asIs || g.allSmall(g.canon(a)) != c.small {
				t.Errorf("%s is all small as it is written: %v, its canonical form is: %v", game, g.allSmall(a), g.allSmall(g.canon(a)))
			}
			wantSmall(t, game, f, c.small)
			wantSmall(t, "the negative of "+game, negated(t, f), c.small)
		}
	}
}

// One subposition decides, however deep it lies.
func TestP8OneSubpositionThatIsNotSmall(t *testing.T) {
	for depth := 1; depth <= 100; depth++ {
		f := zeroGame()
		for range depth {
			f = made(t, []impl.Form{zeroGame()}, []impl.Form{f})
		}
		wantSmall(t, fmt.Sprint(depth, " ups"), f, true)
		f = integer(-1)
		for range depth {
			f = made(t, []impl.Form{zeroGame()}, []impl.Form{f})
		}
		is, ok := impl.IsCanon(f)
		wantBool(t, "IsCanon", is, ok, true)
		wantSmall(t, fmt.Sprint(depth, " above -1"), f, false)
		wantSmall(t, fmt.Sprint(depth, " below 1"), negated(t, f), false)
		wantNoUps(t, fmt.Sprint(depth, " above -1"), f)
	}
}

func TestP8KnownTinies(t *testing.T) {
	for game, tiny := range map[string]string{
		"0": "{0|{0|0}}", "1": "{0|{0|-1}}", "-1": "{0|{0|1}}", "2": "{0|{0|-2}}", "*": "{0|{0|*}}", "^": "{0|{0|v}}", "v": "{0|{0|^}}", "{0|1}": "{0|{0|{-1|0}}}", "{1|-1}": "{0|{0|{1|-1}}}", "{1|0}": "{0|{0|{0|-1}}}", "{0,*|0}": "{0|{0|{0|0,*}}}",
		// The game is taken as it is written.
		"{*|*}": "{0|{0|{*|*}}}", "{-1|}": "{0|{0|{|1}}}", "{0,1|}": "{0|{0|{|0,-1}}}", "{-1|1}": "{0|{0|{-1|1}}}", "{*|}": "{0|{0|{|*}}}",
	} {
		f, ok := impl.TinyForm(short(t, game))
		wantForm(t, "TinyForm of "+game, f, ok, short(t, tiny))
	}
	f, ok := impl.TinyForm(zeroGame())
	wantForm(t, "TinyForm of 0", f, ok, upsForm(t, 1, 0))
}

// Tinies of positive numbers are positive, below all ups, and the smaller the greater the number.
func TestP8TiniesOfNumbers(t *testing.T) {
	l := newLine()
	zero := l.number(dyadic(0, 0))
	var before impl.Form
	for _, d := range numbers(t, "1/65536 1/4 1 3/2 2 7 39 117") {
		f, ok := impl.TinyForm(numberForm(t, d))
		name := fmt.Sprint("TinyForm of ", d)
		l.want(t, name, f, ok, l.enter(ints(zero), ints(l.enter(ints(zero), ints(l.number(minus(d)))))))
		wantOrder(t, name+" and 0", f, zeroGame(), impl.OutLeft)
		wantOrder(t, name+" and up", f, upsForm(t, 1, 0), impl.OutRight)
		wantSmall(t, name, f, false)
		wantNoUps(t, name, f)
		wantNoSwitch(t, name, f)
		if len(before.Nodes) > 0 {
			wantOrder(t, name+" and the one before", f, before, impl.OutRight)
		}
		before = f
	}
}

func TestP8TiniesOfAll(t *testing.T) {
	l := newLine()
	zero, good := l.number(dyadic(0, 0)), map[bool]int{}
	forms := append(append(plainForms(plainDay2()), sample()...), crowded(t, 100)...)
	for nodes := mostNodes - 4; nodes <= mostNodes; nodes++ {
		forms = append(forms, chainOf(nodes), minusChain(nodes), towerOf(nodes), ladderOf(nodes))
		forms = append(forms, tangles(nodes, 5)...)
	}
	for i, f := range forms {
		g, ok := impl.TinyForm(f)
		l.want(t, fmt.Sprint("TinyForm of game ", i), g, ok, l.enter(ints(zero), ints(l.enter(ints(zero), ints(l.negative(l.read(f)))))))
		if ok != (len(f.Nodes) <= mostNodes-2) {
			t.Errorf("TinyForm of %d nodes succeeds: %v", len(f.Nodes), ok)
		}
		good[ok]++
	}
	if good[false] != 18 {
		t.Error("forms of 119 and 120 nodes", good)
	}
	f, ok := impl.TinyForm(withAllOptions(mostOptions, true, true))
	wantForm(t, "TinyForm of most options", f, ok, made(t, []impl.Form{zeroGame()}, []impl.Form{made(t, []impl.Form{zeroGame()}, []impl.Form{negated(t, withAllOptions(mostOptions, true, true))})}))
}

// wantEnds checks the switch of any two numbers by the document's words, and returns whether there is one.
func (l *line) wantEnds(t *testing.T, a impl.Dyadic, b impl.Dyadic) bool {
	t.Helper()
	if !impl.GoodDyadic(a) || !impl.GoodDyadic(b) || bornOn(a) >= mostNodes || bornOn(b) >= mostNodes || valueOf(a).Cmp(valueOf(b)) < 0 {
		wantNoSwitchForm(t, a, b)
		return false
	}
	f, ok := impl.SwitchForm(a, b)
	name := fmt.Sprintf("SwitchForm(%v, %v)", a, b)
	l.want(t, name, f, ok, l.enter(ints(l.number(a)), ints(l.number(b))))
	if ok {
		wantSwitch(t, name, f, a, b)
		is, fine := impl.IsCanon(f)
		wantBool(t, "IsCanon "+name, is, fine, true)
	}
	return ok
}

func TestP8KnownSwitches(t *testing.T) {
	for _, c := range []struct{ ends, game string }{
		{"0 0", "*"}, {"1 -1", "{1|-1}"}, {"1 0", "{1|0}"}, {"0 -1", "{0|-1}"}, {"1 1", "{1|1}"}, {"-1 -1", "{-1|-1}"}, {"2 -2", "{2|-2}"}, {"2 1/2", "{2|{0|1}}"}, {"1/2 -1/2", "{{0|1}|{-1|0}}"}, {"-1/2 -1", "{{-1|0}|-1}"}, {"1/4 1/4", "{{0|{0|1}}|{0|{0|1}}}"},
	} {
		ends := numbers(t, c.ends)
		f, ok := impl.SwitchForm(ends[0], ends[1])
		wantForm(t, "SwitchForm of "+c.ends, f, ok, short(t, c.game))
		wantSwitch(t, c.game, short(t, c.game), ends[0], ends[1])
	}
	wantUps(t, "the switch of 0 and 0", switchOf(t, dyadic(0, 0), dyadic(0, 0)), 0, 1)
}

func TestP8SwitchesOfSmallNumbers(t *testing.T) {
	l, good := newLine(), map[bool]int{}
	for _, a := range smallDyadics(2, 3) {
		for _, b := range smallDyadics(2, 3) {
			good[l.wantEnds(t, a, b)]++
		}
	}
	if good[true] != 33*34/2 || good[false] != 33*32/2 {
		t.Error("switches", good)
	}
}

func TestP8SwitchesBeyondTheLimits(t *testing.T) {
	l := newLine()
	late := numbers(t, "120 -120 237/2 -237/2 1000000 -1000000 868353/8192 999999/2 -999999/2")
	for _, bad := range append(invalidDyadics(), late...) {
		for _, d := range append(numbers(t, "0 1 -1 1/2 119 -119 999999/65536 1000000 -1000000"), bad) {
			wantNoSwitchForm(t, bad, d)
			wantNoSwitchForm(t, d, bad)
		}
	}
	good := map[bool]int{}
	for _, a := range numbers(t, "119 118 117 116 60 59 58 1 0 -1 -59 -60 -61 -117 -118 -119 117/2 119/2 121/2 -117/2 -119/2 1/65536 -1/65536 999999/65536 -999999/65536 235/2 233/2 -233/2 -235/2") {
		for _, b := range numbers(t, "119 118 117 116 60 59 58 1 0 -1 -59 -60 -61 -117 -118 -119 117/2 119/2 121/2 -117/2 -119/2 1/65536 -1/65536 999999/65536 -999999/65536 235/2 233/2 -233/2 -235/2") {
			good[l.wantEnds(t, a, b)]++
		}
	}
	if good[true] < 150 || good[false] < 400 {
		t.Error("too few switches within the limits or beyond them", good)
	}
	for ends, fits := range map[string]bool{"118 118": true, "119 119": false, "118 0": true, "119 0": false, "118 -1": false, "117 -1": true, "60 -58": true, "60 -59": false, "59 -59": true, "-118 -118": true, "-119 -119": false, "0 -118": true, "0 -119": false, "233/2 233/2": true, "233/2 0": true, "233/2 -1": false, "235/2 235/2": false, "235/2 0": false} {
		d := numbers(t, ends)
		wantBool(t, "SwitchForm of "+ends, l.wantEnds(t, d[0], d[1]), true, fits)
	}
}

func TestP8SwitchesThatAreNotCanonical(t *testing.T) {
	checked := 0
	for _, a := range smallDyadics(2, 2) {
		for _, b := range smallDyadics(2, 2) {
			if valueOf(a).Cmp(valueOf(b)) < 0 {
				continue
			}
			f, star := switchOf(t, a, b), a == b && a == impl.Dyadic{}
			for i, g := range disguised(t, f, 3) {
				name := fmt.Sprintf("the switch of %v and %v in disguise %d", a, b, i)
				wantSwitch(t, name, g, a, b)
				wantSmall(t, name, g, star)
				if star {
					wantUps(t, name, g, 0, 1)
				} else {
					wantNoUps(t, name, g)
				}
				checked++
			}
		}
	}
	if checked < 1000 {
		t.Error("only", checked, "games")
	}
}

// A number that is added to a switch is added to its ends.
func TestP8SwitchesAndNumbers(t *testing.T) {
	for _, a := range numbers(t, "-3/4 0 1 5/2") {
		for _, b := range numbers(t, "-7/4 -3/4 0 1 5/2") {
			for _, d := range numbers(t, "-2 -1/2 0 1 9/8") {
				if valueOf(a).Cmp(valueOf(b)) < 0 {
					continue
				}
				high, _ := impl.AddDyadic(a, d)
				low, _ := impl.AddDyadic(b, d)
				f, name := switchOf(t, a, b), fmt.Sprintf("the switch of %v and %v, and %v", a, b, d)
				sum, ok := impl.PlusNumber(f, d)
				wantForm(t, name, sum, ok, switchOf(t, high, low))
				wantSwitch(t, name, added(t, f, numberForm(t, d)), high, low)
			}
		}
	}
}

func TestP8GamesOfNoKind(t *testing.T) {
	for _, d := range append(smallDyadics(3, 3), numbers(t, "119 -119 999999/65536 235/2 -235/2")...) {
		name := fmt.Sprint("the number ", d)
		wantNoSwitch(t, name, numberForm(t, d))
		if d != (impl.Dyadic{}) {
			wantNoUps(t, name, numberForm(t, d))
		}
		wantSmall(t, name, numberForm(t, d), d == impl.Dyadic{})
	}
	g, counts := newGallery(), map[string]int{}
	// Numbers, games with an option that is no number, games with more options, and games near to sums of ups and stars.
	for _, game := range strings.Fields("1 {0,1|} {0|1} {1|2} {1|{1|2}} {0|{1|2}} {{0|1}|1} {1|*} {*|-1} {^|-1} {1|v} {1|^} {1|{1|-1}} {{1|-1}|-1} {1|{0|-1}} {{1|0}|-1} {{2|1}|{-1|-2}} {1|{-1|-1}} {2,{2|0}|-1} {1,{2|0}|-1} {0,{1|0}|0} {0|{0|-1}} {0|{0|-2}} {{1|0}|0} {0|{0|{0|-1}}} {1|{1|1}} {1|{1|{1|1}}} {{1|1}|1} {1,{1|1}|1} {0,1|*} {0,*|{0|-1}}") {
		f := short(t, game)
		for i, h := range []impl.Form{f, negated(t, f), added(t, f, short(t, "{*|*}"))} {
			name := fmt.Sprintf("%s (%d)", game, i)
			g.wantKinds(t, name, h, counts)
			if counts["ups"]+counts["switch"]+counts["small"] > 0 {
				t.Fatal(name, "is of a kind", counts)
			}
		}
	}
}

func TestP8SwitchesWrittenOtherwise(t *testing.T) {
	for game, ends := range map[string]string{
		// An option is dominated.
		"{0,1|-1}": "1 -1", "{1|0,-1}": "1 -1", "{1,*|-1}": "1 -1", "{1|-1,*}": "1 -1", "{0,{0|-1}|0}": "0 0", "{1,{0|-2}|-1}": "1 -1", "{0,-1|0,1}": "0 0",
		// An option is reversible.
		"{^|v}": "0 0", "{{1|{0|-1}}|{{1|0}|-1}}": "0 0", "{1,{{0|-1}|{0|-1}}|0}": "1 0",
		// An option is equal to a number, but not in its form.
		"{{0,1|}|-1}": "2 -1", "{1|{|0,-1}}": "1 -2", "{{0,*|}|0}": "1 0", "{{*|}|{|*}}": "0 0", "{{0,*|}|{|0,*}}": "1 -1", "{{0|2}|{-1|1}}": "1 0", "{{0|{1|2}}|{*|*}}": "1 0",
	} {
		f, d := short(t, game), numbers(t, ends)
		wantSwitch(t, game, f, d[0], d[1])
		wantSwitch(t, "the negative of "+game, negated(t, f), minus(d[1]), minus(d[0]))
	}
}

// A game may have the options of a switch, but no valid number for one of them.
func TestP8SwitchesOfInvalidNumbers(t *testing.T) {
	zero, least := []impl.Form{zeroGame()}, []impl.Form{numberForm(t, dyadic(1, 16))}
	fine := made(t, zero, least)
	great := made(t, []impl.Form{integer(16)}, []impl.Form{numberForm(t, dyadic(16<<15+1, 15))})
	for i, end := range []impl.Form{fine, great} {
		for k, f := range []impl.Form{made(t, []impl.Form{end}, []impl.Form{integer(-1)}), made(t, []impl.Form{integer(17)}, []impl.Form{end}), made(t, []impl.Form{end}, []impl.Form{end}), made(t, []impl.Form{end}, []impl.Form{negated(t, end)})} {
			name := fmt.Sprintf("a switch of the invalid number %d (%d)", i, k)
			is, ok := impl.IsCanon(f)
			wantBool(t, "IsCanon "+name, is, ok, true)
			wantNoSwitch(t, name, f)
			wantNoSwitch(t, "the negative of "+name, negated(t, f))
			wantNoUps(t, name, f)
			wantSmall(t, name, f, false)
		}
	}
	wantSwitch(t, "{1/2^17|}", made(t, []impl.Form{made(t, []impl.Form{fine}, nil)}, zero), dyadic(1, 0), dyadic(0, 0))
}

// Node i of a tower is the nimber i mod 25, and node i of a ladder the nimber i mod 2.
func TestP8MostNodes(t *testing.T) {
	for i := range mostNodes {
		name, f := fmt.Sprint("tower ", i), towerOf(i+1)
		if star := i % (mostOptions + 1); star <= mostStar {
			wantUps(t, name, f, 0, star)
		} else {
			wantNoUps(t, name, f)
		}
		wantSmall(t, name, f, true)
		name, f = fmt.Sprint("ladder ", i), ladderOf(i+1)
		wantUps(t, name, f, 0, i%2)
		wantSmall(t, name, f, true)
		if i%2 == 1 {
			wantSwitch(t, name, f, impl.Dyadic{}, impl.Dyadic{})
		} else {
			wantNoSwitch(t, name, f)
		}
	}
	for _, s := range allSums() {
		f := upsForm(t, s[0], s[1])
		left, right, _ := impl.OptionsOf(f)
		g := made(t, append(left, integer(max(len(f.Nodes), 2)-mostNodes)), right)
		if len(g.Nodes) != mostNodes {
			t.Error(len(g.Nodes), "nodes")
		}
		name := fmt.Sprintf("the sum %v with most nodes", s)
		wantUps(t, name, g, s[0], s[1])
		wantUps(t, "the negative of "+name, negated(t, g), -s[0], s[1])
		wantSmall(t, name, g, true)
	}
	for n := range mostNodes {
		wantNoUps(t, fmt.Sprint("the integer ", n+1), chainOf(n+2))
	}
	high, low := integer(59), integer(-59)
	wantSwitch(t, "±59", made(t, []impl.Form{high}, []impl.Form{low}), dyadic(59, 0), dyadic(-59, 0))
	wantSwitch(t, "{58|1}", made(t, chains(36, 59), chains(2, 25)), dyadic(58, 0), dyadic(1, 0))
	wantSwitch(t, "{0|0,1..118}", made(t, chains(1, 1), append(chains(1, 23), integer(118))), dyadic(0, 0), dyadic(0, 0))
}

func TestP8MostOptions(t *testing.T) {
	for _, s := range allSums() {
		left, right, _ := impl.OptionsOf(upsForm(t, s[0], s[1]))
		for n := 1; len(left) < mostOptions; n++ {
			left = append(left, integer(-n))
		}
		for n := 1; len(right) < mostOptions; n++ {
			right = append(right, integer(n))
		}
		f, name := made(t, left, right), fmt.Sprintf("the sum %v with most options", s)
		wantUps(t, name, f, s[0], s[1])
		wantSmall(t, name, f, true)
	}
	for n := 1; n <= mostOptions; n++ {
		f, name := withAllOptions(n, true, true), fmt.Sprint("all to both sides ", n)
		wantSwitch(t, name, f, dyadic(n-1, 0), dyadic(0, 0))
		wantSmall(t, name, f, n == 1)
		wantNoSwitch(t, name, withAllOptions(n, true, false))
		wantNoUps(t, name, withAllOptions(n, true, false))
		wantSmall(t, name, withAllOptions(n, true, false), false)
	}
}

// wideSmall is all small, and its canonical form has 16 stars and the switches of 2 to last ups as left options, none of which is comparable with another.
func wideSmall(t *testing.T, last int) impl.Form {
	t.Helper()
	low, high := []impl.Form{upsForm(t, -mostUps, 0)}, []impl.Form{upsForm(t, mostUps, 0)}
	var behind, left []impl.Form
	for n := 2; n <= last; n++ {
		behind = append(behind, made(t, []impl.Form{upsForm(t, n, 0)}, []impl.Form{upsForm(t, -n, 0)}))
	}
	for n := range mostStar + 1 {
		left = append(left, starForm(t, n))
	}
	return made(t, append(left, made(t, high, []impl.Form{made(t, behind, low)})), low)
}

// The canonical form of a valid game may be beyond the limits. It is all small or not nevertheless.
func TestP8MoreOptionsThanAFormMayHave(t *testing.T) {
	g, counts := newGallery(), map[string]int{}
	for last := 7; last <= mostUps; last++ {
		f, name := wideSmall(t, last), fmt.Sprint("a wide game to ", last)
		g.wantKinds(t, name, f, counts)
		g.wantKinds(t, "the negative of "+name, negated(t, f), counts)
		wantSmall(t, name, f, true)
		_, ok := impl.CanonOf(f)
		wantBool(t, "CanonOf "+name, ok, true, last <= 9)
		over := made(t, []impl.Form{f}, []impl.Form{zeroGame()})
		g.wantKinds(t, "an option of "+name, over, counts)
		wantSmall(t, "an option of "+name, over, true)
		with := made(t, []impl.Form{f}, []impl.Form{integer(-1)})
		g.wantKinds(t, "-1 beside "+name, with, counts)
		wantSmall(t, "-1 beside "+name, with, false)
		written := made(t, []impl.Form{f, integer(-2)}, []impl.Form{zeroGame()})
		g.wantKinds(t, "-2 beside "+name, written, counts)
		wantSmall(t, "-2 beside "+name, written, true)
	}
	for switches := 1; switches <= mostOptions; switches++ {
		f, _, _ := wide(t, 23, switches)
		name := fmt.Sprintf("23 nimbers and %d switches", switches)
		wantNoUps(t, name, f)
		wantNoSwitch(t, name, f)
		wantSmall(t, name, f, false)
		wantSmall(t, "the negative of "+name, negated(t, f), false)
	}
}

func wantNothingOfSmall(t *testing.T, name string, bad impl.Form) {
	t.Helper()
	wantNoUps(t, name, bad)
	wantNoSwitch(t, name, bad)
	small, ok := impl.IsAllSmall(bad)
	wantNoBool(t, "IsAllSmall "+name, small, ok)
	f, ok := impl.TinyForm(bad)
	wantNoForm(t, "TinyForm of "+name, f, ok)
}

func TestP8InvalidForms(t *testing.T) {
	for name, bad := range invalidForms() {
		wantNothingOfSmall(t, name, bad)
	}
}

func TestP8NilAndEmpty(t *testing.T) {
	for _, zero := range []impl.Form{formOf(node(nil, nil)), formOf(node(ints(), ints())), formOf(node(nil, ints())), formOf(node(ints(), nil))} {
		wantUps(t, "0", zero, 0, 0)
		wantNoSwitch(t, "0", zero)
		wantSmall(t, "0", zero, true)
		f, ok := impl.TinyForm(zero)
		wantForm(t, "TinyForm of 0", f, ok, short(t, "^"))
		star, one := formOf(zero.Nodes[0], node(ints(0), ints(0))), formOf(zero.Nodes[0], node(ints(0), ints()))
		wantUps(t, "*", star, 0, 1)
		wantSwitch(t, "*", star, impl.Dyadic{}, impl.Dyadic{})
		wantSmall(t, "*", star, true)
		wantNoUps(t, "1", one)
		wantNoSwitch(t, "1", one)
		wantSmall(t, "1", one, false)
		wantSmall(t, "-1", formOf(zero.Nodes[0], node(ints(), ints(0))), false)
		f, ok = impl.TinyForm(one)
		wantForm(t, "TinyForm of 1", f, ok, short(t, "{0|{0|-1}}"))
		wantSmall(t, "{*|}", formOf(zero.Nodes[0], node(ints(0), ints(0)), node(ints(1), ints())), true)
	}
	for _, none := range []impl.Form{{}, {Nodes: []impl.Node{}}, {Nodes: make([]impl.Node, 0, 3)}} {
		wantNothingOfSmall(t, "no nodes", none)
	}
}

// resultsOfSmall has what each function of the chapter returns for the arguments, and all that is no form as one text.
func resultsOfSmall(f impl.Form, n int, star int, a impl.Dyadic, b impl.Dyadic) (map[string]impl.Form, string) {
	forms := map[string]impl.Form{}
	var all [4]bool
	forms["StarForm"], all[0] = impl.StarForm(star)
	forms["UpsForm"], all[1] = impl.UpsForm(n, star)
	forms["TinyForm"], all[2] = impl.TinyForm(f)
	forms["SwitchForm"], all[3] = impl.SwitchForm(a, b)
	nim, is := impl.StarOf(f)
	ups, rest, are := impl.UpsOf(f)
	high, low, ends := impl.SwitchOf(f)
	small, ok := impl.IsAllSmall(f)
	return forms, fmt.Sprint(all, nim, is, ups, rest, are, high, low, ends, small, ok)
}

func wantResultsOfSmall(t *testing.T, name string, forms map[string]impl.Form, rest string, f impl.Form, i int) {
	t.Helper()
	n, star, a, b := argumentsOfSmall(i)
	plain, plainRest := resultsOfSmall(copied(f), n, star, a, b)
	for function, want := range plain {
		if !sameNodes(forms[function], want) {
			t.Errorf("%s with %s = %v, want %v", function, name, forms[function], want)
		}
	}
	if rest != plainRest {
		t.Errorf("the results for %s are %s, want %s", name, rest, plainRest)
	}
}

func argumentsOfSmall(i int) (int, int, impl.Dyadic, impl.Dyadic) {
	return i*5%27 - 13, i * 3 % 17, dyadic(i*7%9, 0), dyadic(2*(i%5)-5, 1)
}

func gamesOfSmall(t *testing.T) []impl.Form {
	t.Helper()
	l := append(append(plainForms(plainDay2()), sample()...), crowded(t, 50)...)
	for i, s := range allSums() {
		if i%7 == 0 {
			l = append(l, upsForm(t, s[0], s[1]))
		}
	}
	return l
}

func TestP30SmallModifiesNoArgument(t *testing.T) {
	for i, want := range gamesOfSmall(t) {
		f := withSpare(want)
		n, star, a, b := argumentsOfSmall(i)
		forms, rest := resultsOfSmall(f, n, star, a, b)
		wantResultsOfSmall(t, fmt.Sprint("game ", i, " with spare elements"), forms, rest, want, i)
		wantSpare(t, "a function of small games", f, want)
	}
}

func TestP30SmallSharesNoMemory(t *testing.T) {
	for i, want := range gamesOfSmall(t) {
		f := copied(want)
		n, star, a, b := argumentsOfSmall(i)
		forms, rest := resultsOfSmall(f, n, star, a, b)
		spoil(f)
		wantResultsOfSmall(t, fmt.Sprint("game ", i, " after it was changed"), forms, rest, want, i)
		f = copied(want)
		forms, _ = resultsOfSmall(f, n, star, a, b)
		again, _ := resultsOfSmall(f, n, star, a, b)
		for _, result := range forms {
			spoil(result)
		}
		wantForm(t, "the game after the results were changed", f, true, want)
		wantResultsOfSmall(t, fmt.Sprint("game ", i, " after other results were changed"), again, rest, want, i)
	}
}

func TestP30ListsOfOneSmallGameShareNoMemory(t *testing.T) {
	for _, s := range allSums() {
		wantOwnLists(t, fmt.Sprint("the sum ", s), upsForm(t, s[0], s[1]))
		wantOwnLists(t, fmt.Sprint("*", s[1]), starForm(t, s[1]))
	}
	for i, f := range gamesOfSmall(t) {
		g, _ := impl.TinyForm(f)
		wantOwnLists(t, fmt.Sprint("TinyForm of game ", i), g)
		_, _, a, b := argumentsOfSmall(i)
		g, _ = impl.SwitchForm(a, b)
		wantOwnLists(t, fmt.Sprintf("SwitchForm of %v and %v", a, b), g)
	}
}

func TestP30SmallReturnsForAll(t *testing.T) {
	var strange []impl.Dyadic
	for _, top := range append(extremeInts(), 0, 1, -1, 2, 119, -120, 1000001) {
		for _, pow := range append(extremeInts(), 0, 1, -1, 16, 17, 63, 64) {
			strange = append(strange, dyadic(top, pow))
		}
	}
	values := append(extremeInts(), -17, -13, -12, -1, 0, 1, 12, 13, 15, 16)
	for i, f := range append(strangeForms(), nimber(1)) {
		func() {
			defer noPanic(t, fmt.Sprint(f))
			resultsOfSmall(f, values[i%len(values)], values[i*3%len(values)], strange[i%len(strange)], strange[(i*5+2)%len(strange)])
		}()
	}
	for i, a := range values {
		for k, b := range values {
			func() {
				defer noPanic(t, fmt.Sprint(a, b))
				resultsOfSmall(impl.Form{}, a, b, strange[i%len(strange)], strange[(i*5+k)%len(strange)])
			}()
		}
	}
	for _, a := range strange {
		for _, b := range strange {
			func() {
				defer noPanic(t, fmt.Sprint(a, b))
				impl.SwitchForm(a, b)
			}()
		}
	}
}

func TestP30SmallOfLargestGames(t *testing.T) {
	forms := append(longest(), ladderOf(mostNodes-1), wideSmall(t, mostUps))
	for seed := range 20 {
		forms = append(forms, tangleOf(mostNodes, mostOptions+1, seed+1), tangleOf(mostNodes, 2+seed, seed+1))
	}
	inTime(t, "the kinds of the largest games", func() {
		for _, f := range forms {
			if !impl.GoodForm(f) {
				t.Errorf("a game of %d nodes is invalid", len(f.Nodes))
			}
			resultsOfSmall(f, -mostUps, mostStar, dyadic(59, 0), dyadic(-59, 0))
			if small, ok := impl.IsAllSmall(f); !ok {
				t.Errorf("IsAllSmall a game of %d nodes = %v, %v", len(f.Nodes), small, ok)
			}
		}
	})
}

func TestP30SmallKeepsNoState(t *testing.T) {
	for range 2 {
		wantUps(t, "up and *", short(t, "{0,*|0}"), 1, 1)
		wantNothingOfSmall(t, "no game", impl.Form{})
		wantNoUps(t, "{1|-1}", short(t, "{1|-1}"))
		wantSwitch(t, "{1|-1}", short(t, "{1|-1}"), dyadic(1, 0), dyadic(-1, 0))
		wantNoSwitchForm(t, dyadic(-1, 0), dyadic(1, 0))
		wantNoUpsForm(t, 13, 0)
		wantUpsForm(t, -1, 0, short(t, "v"))
		wantSmall(t, "^", short(t, "^"), true)
		wantSmall(t, "1", short(t, "1"), false)
		f, ok := impl.TinyForm(short(t, "1"))
		wantForm(t, "TinyForm of 1", f, ok, short(t, "{0|{0|-1}}"))
	}
}
