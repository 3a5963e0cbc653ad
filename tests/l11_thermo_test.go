package tests

import (
	"fmt"
	"math/big"
	"slices"
	"strings"
	"testing"

	"loop.example/g00868/impl"
)

const mostPoints = 40

// A sketch is straight between neighbouring temperatures, and constant behind the last one.
type sketch struct {
	temps  []*big.Rat
	values []*big.Rat
}

func sketchOf(w []impl.Point) sketch {
	var s sketch
	for _, p := range w {
		s.temps, s.values = append(s.temps, valueOf(p.At)), append(s.values, valueOf(p.Val))
	}
	return s
}

func (s sketch) at(temp *big.Rat) *big.Rat {
	next, found := slices.BinarySearchFunc(s.temps, temp, (*big.Rat).Cmp)
	switch {
	case found:
		return s.values[next]
	case next == len(s.temps):
		return s.values[next-1]
	}
	run := new(big.Rat).Sub(temp, s.temps[next-1])
	return run.Add(run.Mul(run, s.slopeBefore(next)), s.values[next-1])
}

func (s sketch) slopeBefore(i int) *big.Rat {
	if i == len(s.temps) {
		return new(big.Rat)
	}
	rise := new(big.Rat).Sub(s.values[i], s.values[i-1])
	return rise.Quo(rise, new(big.Rat).Sub(s.temps[i], s.temps[i-1]))
}

// points have no temperature at which the slope stays the same.
func (s sketch) points() ([]impl.Point, bool) {
	var w []impl.Point
	for i, temp := range s.temps {
		if i > 0 && s.slopeBefore(i).Cmp(s.slopeBefore(i+1)) == 0 {
			continue
		}
		at, ok := dyadicOf(temp)
		val, fine := dyadicOf(s.values[i])
		if !ok || !fine {
			return nil, false
		}
		w = append(w, impl.Point{At: at, Val: val})
	}
	return w, len(w) <= mostPoints
}

func inTurn(temps []*big.Rat) []*big.Rat {
	slices.SortFunc(temps, (*big.Rat).Cmp)
	return slices.CompactFunc(temps, func(a, b *big.Rat) bool { return a.Cmp(b) == 0 })
}

// crossing is where a straight line from above to below 0 is 0.
func crossing(from *big.Rat, to *big.Rat, above *big.Rat, below *big.Rat) *big.Rat {
	temp := new(big.Rat).Sub(to, from)
	temp.Mul(temp, above)
	temp.Quo(temp, new(big.Rat).Sub(above, below))
	return temp.Add(temp, from)
}

// A trellis has the walls behind the options of one side, and is what the player of that side gets by moving.
type trellis struct {
	walls []sketch
	side  int
}

func (s trellis) at(temp *big.Rat) *big.Rat {
	var best *big.Rat
	for _, w := range s.walls {
		if value := w.at(temp); best == nil || value.Cmp(best) == 1-2*s.side {
			best = value
		}
	}
	if s.side == 0 {
		return new(big.Rat).Sub(best, temp)
	}
	return new(big.Rat).Add(best, temp)
}

// temps has each temperature at which two walls meet.
func (s trellis) temps() []*big.Rat {
	var temps []*big.Rat
	for _, w := range s.walls {
		temps = append(temps, w.temps...)
	}
	temps = inTurn(temps)
	values := make([][]*big.Rat, len(s.walls))
	for i, w := range s.walls {
		for _, temp := range temps {
			values[i] = append(values[i], w.at(temp))
		}
	}
	var all []*big.Rat
	for k, to := range temps {
		for i := range values {
			for j := range values {
				if k > 0 && values[i][k-1].Cmp(values[j][k-1]) > 0 && values[i][k].Cmp(values[j][k]) < 0 {
					above, below := new(big.Rat).Sub(values[i][k-1], values[j][k-1]), new(big.Rat).Sub(values[i][k], values[j][k])
					all = append(all, crossing(temps[k-1], to, above, below))
				}
			}
		}
	}
	return inTurn(append(all, temps...))
}

// A draft is a thermograph by the document's words, with numbers of any size.
type draft struct {
	walls [2]sketch
	temp  *big.Rat
	mean  *big.Rat
	met   string
}

func (d draft) thermo() (impl.Thermo, bool) {
	left, ok := d.walls[0].points()
	right, fine := d.walls[1].points()
	temp, valid := dyadicOf(d.temp)
	mean, good := dyadicOf(d.mean)
	if !ok || !fine || !valid || !good {
		return impl.Thermo{}, false
	}
	return impl.Thermo{Left: left, Right: right, Temp: temp, Mean: mean}, true
}

// drawn follows both sides up to where they meet.
func drawn(left trellis, right trellis) draft {
	temps := inTurn(append(left.temps(), right.temps()...))
	gap := func(temp *big.Rat) *big.Rat { return new(big.Rat).Sub(left.at(temp), right.at(temp)) }
	met := slices.IndexFunc(temps, func(temp *big.Rat) bool { return gap(temp).Sign() <= 0 })
	var d draft
	switch {
	case met < 0:
		last := temps[len(temps)-1]
		// Behind all points the sides come together twice as fast as the temperature rises.
		half := new(big.Rat).Mul(gap(last), big.NewRat(1, 2))
		d.temp, d.met = half.Add(half, last), "behind all points"
	case gap(temps[met]).Sign() == 0 && met > 0:
		d.temp, d.met = temps[met], "at a point"
	case gap(temps[met]).Sign() == 0:
		d.temp, d.met = new(big.Rat), "at 0"
	default:
		d.temp, d.met = crossing(temps[met-1], temps[met], gap(temps[met-1]), gap(temps[met])), "between points"
	}
	d.mean = left.at(d.temp)
	for side, s := range []trellis{left, right} {
		for _, temp := range inTurn(append(s.temps(), d.temp)) {
			if temp.Cmp(d.temp) <= 0 {
				d.walls[side].temps = append(d.walls[side].temps, temp)
				d.walls[side].values = append(d.walls[side].values, s.at(temp))
			}
		}
	}
	return d
}

type drafter struct {
	*arbiter
	drafts map[int]draft
}

func newDrafter() *drafter {
	return &drafter{arbiter: newArbiter(), drafts: map[int]draft{}}
}

func (d *drafter) draft(game int) draft {
	if known, found := d.drafts[game]; found {
		return known
	}
	var made draft
	if worth := d.worth(game); worth != nil {
		mast := sketch{temps: []*big.Rat{new(big.Rat)}, values: []*big.Rat{worth}}
		made = draft{walls: [2]sketch{mast, mast}, temp: big.NewRat(-1, 1), mean: worth, met: "number"}
	} else {
		sides := [2]trellis{{side: 0}, {side: 1}}
		for side, options := range d.games[game] {
			for _, option := range options {
				sides[side].walls = append(sides[side].walls, d.draft(option).walls[1-side])
			}
		}
		made = drawn(sides[0], sides[1])
	}
	d.drafts[game] = made
	return made
}

func (d *drafter) thermo(game int) (impl.Thermo, bool) {
	for _, part := range d.parts(game) {
		if _, ok := d.draft(part).thermo(); !ok {
			return impl.Thermo{}, false
		}
	}
	return d.draft(game).thermo()
}

// wantDrawn checks all functions by the document's words, and counts what games there are.
func (d *drafter) wantDrawn(t *testing.T, name string, f impl.Form, counts map[string]int) {
	t.Helper()
	game := d.read(f)
	thermo, ok := d.thermo(game)
	counts["all"]++
	if !ok {
		wantNoThermo(t, name, f)
		counts["none"]++
		return
	}
	wantThermo(t, name, f, thermo)
	counts[d.draft(game).met]++
	for kind, is := range map[string]bool{
		"fractional mean":        thermo.Mean.Pow > 0,
		"fractional temperature": thermo.Temp.Pow > 0,
		"negative mean":          thermo.Mean.Top < 0,
		"bent":                   len(thermo.Left)+len(thermo.Right) > 4,
		"crooked":                len(thermo.Left) > 3 || len(thermo.Right) > 3,
		"disguised":              d.canon(game) != game,
	} {
		if is {
			counts[kind]++
		}
	}
}

func wantKinds(t *testing.T, counts map[string]int, least int, kinds ...string) {
	t.Helper()
	for _, kind := range kinds {
		if counts[kind] < least {
			t.Errorf("only %d games of the kind %q: %v", counts[kind], kind, counts)
		}
	}
}

// wallFrom reads a wall such as "0:4 3/2:5/2".
func wallFrom(t *testing.T, s string) []impl.Point {
	t.Helper()
	var w []impl.Point
	l := numbers(t, strings.ReplaceAll(s, ":", " "))
	for i := 0; i < len(l); i += 2 {
		w = append(w, impl.Point{At: l[i], Val: l[i+1]})
	}
	return w
}

// thermoFrom reads a temperature, a mean and two walls, such as "2 1|0:3 2:1|0:-1 2:1".
func thermoFrom(t *testing.T, s string) impl.Thermo {
	t.Helper()
	parts := strings.Split(s, "|")
	ends := numbers(t, parts[0])
	return impl.Thermo{Left: wallFrom(t, parts[1]), Right: wallFrom(t, parts[2]), Temp: ends[0], Mean: ends[1]}
}

func mast(d impl.Dyadic) impl.Thermo {
	w := []impl.Point{{Val: d}}
	return impl.Thermo{Left: w, Right: w, Temp: dyadic(-1, 0), Mean: d}
}

// cold has games near numbers that are equal to none.
func cold(d impl.Dyadic) impl.Thermo {
	thermo := mast(d)
	thermo.Temp = impl.Dyadic{}
	return thermo
}

func turnedWall(w []impl.Point) []impl.Point {
	var turned []impl.Point
	for _, p := range w {
		turned = append(turned, impl.Point{At: p.At, Val: minus(p.Val)})
	}
	return turned
}

func turnedThermo(thermo impl.Thermo) impl.Thermo {
	return impl.Thermo{Left: turnedWall(thermo.Right), Right: turnedWall(thermo.Left), Temp: thermo.Temp, Mean: minus(thermo.Mean)}
}

func sameThermo(a impl.Thermo, b impl.Thermo) bool {
	return slices.Equal(a.Left, b.Left) && slices.Equal(a.Right, b.Right) && a.Temp == b.Temp && a.Mean == b.Mean
}

func wantWall(t *testing.T, name string, w []impl.Point, want bool) {
	t.Helper()
	if impl.GoodWall(w) != want {
		t.Errorf("GoodWall of %s, %v = %v, want %v", name, w, !want, want)
	}
}

// tempsAlong has the temperatures of points, those halfway between them, and some behind.
func tempsAlong(thermo impl.Thermo) []impl.Dyadic {
	var temps []*big.Rat
	for _, w := range [][]impl.Point{thermo.Left, thermo.Right} {
		for i, p := range w {
			temps = append(temps, valueOf(p.At))
			if i > 0 {
				half := new(big.Rat).Add(valueOf(w[i-1].At), valueOf(p.At))
				temps = append(temps, half.Mul(half, big.NewRat(1, 2)))
			}
		}
	}
	last := slices.MaxFunc(temps, (*big.Rat).Cmp)
	temps = append(temps, new(big.Rat).Add(last, big.NewRat(1, 65536)), new(big.Rat).Add(last, big.NewRat(1, 1)), big.NewRat(1, 65536), big.NewRat(1, 2), big.NewRat(1000000, 1))
	var l []impl.Dyadic
	for _, temp := range inTurn(temps) {
		if d, ok := dyadicOf(temp); ok {
			l = append(l, d)
		}
	}
	return l
}

// wantCooled expects no stops where one of the values is no valid number.
func wantCooled(t *testing.T, name string, f impl.Form, thermo impl.Thermo, temp impl.Dyadic) {
	t.Helper()
	left, ok := dyadicOf(sketchOf(thermo.Left).at(valueOf(temp)))
	right, fine := dyadicOf(sketchOf(thermo.Right).at(valueOf(temp)))
	a, b, is := impl.CoolStops(f, temp)
	switch {
	case !ok || !fine:
		if a != (impl.Dyadic{}) || b != (impl.Dyadic{}) || is {
			t.Errorf("CoolStops of %s at %v = %v, %v, %v, want zero values and false", name, temp, a, b, is)
		}
	case a != left || b != right || !is:
		t.Errorf("CoolStops of %s at %v = %v, %v, %v, want %v, %v, true", name, temp, a, b, is, left, right)
	}
	d, is := impl.WallAt(thermo.Left, temp)
	wantValue(t, fmt.Sprint("WallAt left of ", name), d, is, sketchOf(thermo.Left).at(valueOf(temp)))
	d, is = impl.WallAt(thermo.Right, temp)
	wantValue(t, fmt.Sprint("WallAt right of ", name), d, is, sketchOf(thermo.Right).at(valueOf(temp)))
}

func wantNoCoolStops(t *testing.T, name string, f impl.Form, temp impl.Dyadic) {
	t.Helper()
	if a, b, ok := impl.CoolStops(f, temp); a != (impl.Dyadic{}) || b != (impl.Dyadic{}) || ok {
		t.Errorf("CoolStops of %s at %v = %v, %v, %v, want zero values and false", name, temp, a, b, ok)
	}
}

func wantHottest(t *testing.T, name string, l []impl.Form, want int) {
	t.Helper()
	if i, ok := impl.HottestOf(l); i != want || !ok {
		t.Errorf("HottestOf %s = %d, %v, want %d, true", name, i, ok, want)
	}
}

func wantNoHottest(t *testing.T, name string, l []impl.Form) {
	t.Helper()
	i, ok := impl.HottestOf(l)
	wantNoInt(t, "HottestOf "+name, i, ok)
}

func wantThermo(t *testing.T, name string, f impl.Form, want impl.Thermo) {
	t.Helper()
	got, ok := impl.ThermoOf(f)
	if !ok || !sameThermo(got, want) {
		t.Errorf("ThermoOf %s = %v, %v, want %v, true", name, got, ok, want)
	}
	wantWall(t, "the left wall of "+name, got.Left, true)
	wantWall(t, "the right wall of "+name, got.Right, true)
	d, ok := impl.TempOf(f)
	wantDyadic(t, "TempOf "+name, d, ok, want.Temp)
	d, ok = impl.MeanOf(f)
	wantDyadic(t, "MeanOf "+name, d, ok, want.Mean)
	for _, temp := range tempsAlong(want) {
		wantCooled(t, name, f, want, temp)
	}
	for _, temp := range []impl.Dyadic{dyadic(-1, 0), dyadic(-1, 16), dyadic(2, 1), dyadic(1, 17), dyadic(1000001, 0)} {
		wantNoCoolStops(t, name, f, temp)
	}
	wantHottest(t, name, []impl.Form{f}, 0)
}

func wantNoThermo(t *testing.T, name string, f impl.Form) {
	t.Helper()
	if got, ok := impl.ThermoOf(f); ok || !sameThermo(got, impl.Thermo{}) {
		t.Errorf("ThermoOf %s = %v, %v, want the zero Thermo and false", name, got, ok)
	}
	d, ok := impl.TempOf(f)
	wantNoDyadic(t, "TempOf "+name, d, ok)
	d, ok = impl.MeanOf(f)
	wantNoDyadic(t, "MeanOf "+name, d, ok)
	for _, temp := range []impl.Dyadic{{}, dyadic(1, 0), dyadic(1, 16), dyadic(1000000, 0), dyadic(-1, 0), dyadic(2, 1)} {
		wantNoCoolStops(t, name, f, temp)
	}
	wantNoHottest(t, "a list with "+name, []impl.Form{f})
	wantNoHottest(t, "a list that begins with "+name, []impl.Form{f, zeroGame()})
	wantNoHottest(t, "a list that ends with "+name, []impl.Form{integer(1), short4(), f})
}

// short4 is {4|-4}, hotter than most games.
func short4() impl.Form {
	f, _ := impl.SwitchForm(dyadic(4, 0), dyadic(-4, 0))
	return f
}

// wantKnownThermos reads games for their thermographs, and checks their negatives too.
func wantKnownThermos(t *testing.T, table map[string]string) map[string]int {
	t.Helper()
	d, counts := newDrafter(), map[string]int{}
	for thermo, games := range table {
		want := thermoFrom(t, thermo)
		for _, game := range strings.Fields(games) {
			f := spelled(t, game)
			wantThermo(t, game, f, want)
			wantThermo(t, "the negative of "+game, negated(t, f), turnedThermo(want))
			d.wantDrawn(t, game, f, counts)
			d.wantDrawn(t, "the negative of "+game, negated(t, f), counts)
		}
	}
	return counts
}

func TestP11ExamplesOfTheDocument(t *testing.T) {
	t.Parallel()
	f := said(t, "{4|{2|0}}")
	want := thermoFrom(t, "3/2 5/2|0:4 3/2:5/2|0:2 1:2 3/2:5/2")
	wantThermo(t, "{4|{2|0}}", f, want)
	wantThermo(t, "the negative of {4|{2|0}}", negated(t, f), turnedThermo(want))
	if impl.MaxPoints != mostPoints {
		t.Error("MaxPoints =", impl.MaxPoints)
	}
}

func TestP11SwitchesOfNumbers(t *testing.T) {
	t.Parallel()
	counts := wantKnownThermos(t, map[string]string{
		"1 0|0:1 1:0|0:-1 1:0":                                          "~1 {0,1|-1} {1|0,-1} {1|-1,*,2}",
		"2 1|0:3 2:1|0:-1 2:1":                                          "{3|-1} {3,*|-1} {3,2|0,-1}",
		"1/2 1/2|0:1 1/2:1/2|0:0 1/2:1/2":                               "{1|0} {1,1/2,0|0,1/2,1}",
		"1 -4|0:-3 1:-4|0:-5 1:-4":                                      "{-3|-5} {-3,-4|-4,-5}",
		"5/2 -1/2|0:2 5/2:-1/2|0:-3 5/2:-1/2":                           "{2|-3} {2,-3|-3,2}",
		"1/4 3/4|0:1 1/4:3/4|0:1/2 1/4:3/4":                             "{1|1/2} {1*|1/2v}",
		"3/8 1/8|0:1/2 3/8:1/8|0:-1/4 3/8:1/8":                          "{1/2|-1/4} {1/2,-1/4|-1/4,1/2}",
		"1/4 -1/2|0:-1/4 1/4:-1/2|0:-3/4 1/4:-1/2":                      "{-1/4|-3/4}",
		"1/65536 1/65536|0:1/32768 1/65536:1/65536|0:0 1/65536:1/65536": "{1/32768|0}",
		"59 0|0:59 59:0|0:-59 59:0":                                     "~59",
		"59 -1|0:58 59:-1|0:-60 59:-1":                                  "{58|-60}",
		"1/2 235/2|0:118 1/2:235/2|0:117 1/2:235/2":                     "{118|117}",
	})
	wantKinds(t, counts, 15, "behind all points", "fractional mean", "fractional temperature", "negative mean")
}

func TestP11WallsThatMeetAtZero(t *testing.T) {
	t.Parallel()
	l := map[string]string{}
	for value, games := range map[string]string{
		"0":       "* *2 *3 *15 ^ v ^* v* ^2 ^3*2 v12*15 {0|^} {v|0} {0|{0|-1}} {0|{0|-7/2}} {0|{0|{0|-1}}} {{1|0}|0} {{2|0}|0} {{1|0}|{*|-1}} {{9|0},0|{0|-9}} {{3|*}|{0|-3}} {0|0} {{-1|}|{|1}} {0,-1|0,1} {0,*|*} {^|v} {^|0} {*,^|v,*2}",
		"1":       "1* 1*7 1^ 1v2*3 {1|1} {1,0|1,2} {1*|1} {1|{1|0}} {{2|1}|1} {1|{1|-9}} {0,1|1} {1,1*|1,1*}",
		"-1":      "-1* -1^ {-1|-1} {-1|{-1|-2}} {{|0,1}|{-2|0}}",
		"1/2":     "1/2* 1/2v {1/2|1/2} {1/2|{1/2|1/4}} {{1|1/2}|1/2}",
		"1/65536": "1/65536* 1/65536^ {1/65536|1/65536}",
		"7":       "7* 7^ {7|7} {7|{7|-7}} {{9|7}|7}",
		"59":      "59* {59|59}",
	} {
		l[fmt.Sprintf("0 %s|0:%s|0:%s", value, value, value)] = games
	}
	counts := wantKnownThermos(t, l)
	wantKinds(t, counts, counts["all"], "at 0")
}

func TestP11WallsThatMeetElsewhere(t *testing.T) {
	t.Parallel()
	for met, table := range map[string]map[string]string{
		"at a point": {
			"1 2|0:3 1:2|0:2":              "{3|{2|0}} {3|{2|0},{9|0}} {3,*|3,{2|0}}",
			"1 0|0:0|0:-1 1:0":             "{{2|0}|-1} {{2|0},0|-1*}",
			"2 1|0:2 1:2 2:1|0:1":          "{{4|2}|{1|-3}} {{4|2},2|1,{1|-3}}",
			"2 1|0:2 1:1|0:-1 2:1":         "{2,{5|1}|-1} {2*,{5|1^}|-1}",
			"3/8 1/4|0:1/4|0:-1/8 3/8:1/4": "{{1|1/4}|-1/8}",
			"4 1|0:1|0:-3 4:1":             "{{9|1}|-3}",
		},
		"between points": {
			"1/2 2|0:5/2 1/2:2|0:2":                       "{5/2|{2|0}} {5/2|{2|0},{2|-9}}",
			"3 1|0:1|0:-2 3:1":                            "{{9|1}|-2} {{9|1},1|-2*}",
			"3/2 1|0:2 1:1|0:-1/2 3/2:1":                  "{2,{5|1}|-1/2} {2,{5|1},{1|0}|-1/2,0}",
			"1/65536 1/2|0:1/2|0:32767/65536 1/65536:1/2": "{{1|1/2}|32767/65536}",
			// The points of these options change no slope.
			"2 1|0:3 2:1|0:-1 2:1": "{3,{9|-8}|-1} {3,{4|-4}|-1} {3|-1,{9|-9}}",
		},
		"behind all points": {
			"3/2 5/2|0:4 3/2:5/2|0:2 1:2 3/2:5/2":                    "{4|{2|0}} {4,*|{2|0},3} {4*|{2|0}} {4|{2v|*}}",
			"2 0|0:1 1:1 2:0|0:-2 2:0":                               "{{3|1}|-2} {{3|1},1,0|-2*}",
			"13/16 -3/16|0:1/4 3/8:1/4 13/16:-3/16|0:-1 13/16:-3/16": "{{1|1/4}|-1}",
			"5 0|0:1 4:1 5:0|0:-1 4:-1 5:0":                          "{{9|1}|{-1|-9}} {{9|1},1|-1,{-1|-9}}",
			"7/4 17/4|0:5 1:5 7/4:17/4|0:4 3/2:4 7/4:17/4":           "{{7|5}|{4|1}}",
			"3 0|0:2 1:1 2:1 3:0|0:-3 3:0":                           "{2,{5|1}|-3} {2,{5|1},{1|0}|-3,-2}",
			// The points of these options change no slope.
			"2 1|0:3 2:1|0:-1 2:1": "{3,{4|2}|-1} {3,{4|2},{7/2|5/2}|-1} {3,{4|2}|-1,{1|-1}}",
		},
	} {
		counts := wantKnownThermos(t, table)
		wantKinds(t, counts, counts["all"], met)
	}
}

func TestP11Numbers(t *testing.T) {
	t.Parallel()
	for _, d := range append(smallDyadics(4, 4), numbers(t, "119 -119 118 1/65536 -1/65536 999999/65536 -999999/65536 860161/8192 -237/2 235/2")...) {
		if f, ok := impl.NumberForm(d); ok {
			wantThermo(t, fmt.Sprint("the game of ", d), f, mast(d))
		}
	}
}

// These have options, and no walls that come of them.
func TestP11NumbersThatAreNotCanonical(t *testing.T) {
	t.Parallel()
	d, counts := newDrafter(), map[string]int{}
	for value, games := range map[string]string{
		"0":    "{-1|1} {-2|3} {-1|} {|1} {*|*} {*|} {|*} {v|^} {~1|~1} {~1|~2} {{2|0}|~1} {{1|0}|{0|-1}} {-1,*|1,*} {{0|-1}|{1|0}} {{0|-2}|{2|0}} {-1,{0|-9}|{9|0},1} {{9|0}|{0|-9}}",
		"1":    "{0,-1|} {0|2} {0,*|} {{2|1}|} {1*|} {{2|1}|{2|1}} {0|{1|0}} {0|{2|-1}} {^|} {0,~1|3} {{*|*}|} {{-1|1}|} {{-1|1}|{2|3}} {0|{2|1/2}}",
		"-1":   "{|0,1} {-2|0} {{0|-1}|0} {|v} {|{-1|-2}} {-1v|-1/2,-1/2^} {|{{-1|}|{|1}},0}",
		"2":    "{0,1|} {1,{9|0}|} {1|{2|2}} {{3|2}|5} {{0|2}|}",
		"1/2":  "{0|1,2} {0,-1|1} {0,*|1} {^|1} {0|1,{2|0}} {{1|1/2}|{1/2|0}} {{{1|0}|{0|-1}}|1} {{-1|}|1} {{9|1/4}|{3/4|-9}}",
		"-3/4": "{-1|-1/2,0} {-1,-1*|-1/2} {-1,-2|{-1/2|-9},-1/2}",
		"7":    "{6,5,4,3|} {6|8} {{9|7}|{7|5}} {{9|7}|{8|5}}",
	} {
		for _, game := range strings.Fields(games) {
			f, x := spelled(t, game), numbers(t, value)[0]
			wantThermo(t, game, f, mast(x))
			wantThermo(t, "the negative of "+game, negated(t, f), mast(minus(x)))
			d.wantDrawn(t, game, f, counts)
			wantThermo(t, game+" to 20", made(t, []impl.Form{integer(20)}, []impl.Form{f}), switchThermo(t, dyadic(20, 0), x))
			wantThermo(t, "-20 to "+game, made(t, []impl.Form{f}, []impl.Form{integer(-20)}), switchThermo(t, x, dyadic(-20, 0)))
			wantThermo(t, game+" twice", made(t, []impl.Form{f}, []impl.Form{f}), cold(x))
		}
	}
	wantKinds(t, counts, counts["all"], "number")
}

// switchThermo is for numbers whose sum can be halved.
func switchThermo(t *testing.T, high impl.Dyadic, low impl.Dyadic) impl.Thermo {
	t.Helper()
	half := func(a impl.Dyadic, b impl.Dyadic) impl.Dyadic {
		sum, _ := impl.AddDyadic(a, b)
		d, ok := impl.HalfOf(sum)
		if !ok {
			t.Fatal("no half of", sum)
		}
		return d
	}
	temp, mean := half(high, minus(low)), half(high, low)
	end := impl.Point{At: temp, Val: mean}
	return impl.Thermo{Left: []impl.Point{{Val: high}, end}, Right: []impl.Point{{Val: low}, end}, Temp: temp, Mean: mean}
}

func TestP11NumbersOnTheWay(t *testing.T) {
	t.Parallel()
	counts := wantKnownThermos(t, map[string]string{
		"1 -1|0:0 1:-1|0:-2 1:-1":               "{0|-2} {{-1|1}|-2} {*|-2} {{*|}|-2} {{|1}|{-2*|-2*}} {{v|^}|-2} {{~1|~1}|{-2,-2*|-2,-2*}} {{{1|0}|{0|-1}}|-2} {^|-2*}",
		"1/4 3/4|0:1 1/4:3/4|0:1/2 1/4:3/4":     "{{0|2}|{0|1,2}} {{0,*|}|{0|1,2},1} {{0,*|}|{0|1,{2|0}}} {{{2|1}|}|{0,*|1}}",
		"0 0|0:0|0:0":                           "{{-1|1}|{*|*}} {{*|}|{|*}} {{{*|*}|{*|*}},-1|0} {{-1|1}|{{-1|1}|-1}} {{~1|~1}|{v|^}}",
		"1/2 5/2|0:3 1/2:5/2|0:2 1/2:5/2":       "{3|{0,1|}} {{2,1|}|{1|{2|2}}} {{2|{3|2}},{7|-7}|{1,{9|0}|}}",
		"3/2 5/2|0:4 3/2:5/2|0:2 1:2 3/2:5/2":   "{4|{2|{-1|1}}} {{3,2|}|{{0,1|}|{{1|0}|{0|-1}}}} {{3|{4|1}}|{2|*},{{5|2}|{1|-1}}}",
		"3/4 -1/4|0:1/2 3/4:-1/4|0:-1 3/4:-1/4": "{{0|1,2}|{-2|0}} {{{1|1/2}|{1/2|0}}|-1}",
	})
	wantKinds(t, counts, 10, "disguised", "negative mean", "fractional mean", "at 0")
}

func TestP11EveryGameOfDay2(t *testing.T) {
	t.Parallel()
	d, counts := newDrafter(), map[string]int{}
	for i, f := range plainForms(plainDay2()) {
		d.wantDrawn(t, fmt.Sprint("game ", i), f, counts)
	}
	wantKinds(t, counts, 30, "number", "at 0", "behind all points", "disguised", "negative mean")
	if counts["none"] > 0 {
		t.Error("games without walls", counts)
	}
}

func TestP11MixedGames(t *testing.T) {
	t.Parallel()
	d, counts := newDrafter(), map[string]int{}
	for i, f := range append(append(sample(), crowded(t, 300)...), smalls(t, 100)...) {
		d.wantDrawn(t, fmt.Sprint("mixed game ", i), f, counts)
	}
	for nodes := 3; nodes <= 30; nodes++ {
		for i, f := range tangles(nodes, 5) {
			d.wantDrawn(t, fmt.Sprintf("tangle %d of %d nodes", i, nodes), f, counts)
		}
	}
	wantKinds(t, counts, 50, "number", "at 0", "behind all points", "disguised", "negative mean", "fractional mean", "fractional temperature")
	if counts["none"] > 0 {
		t.Error("games without walls", counts)
	}
}

func TestP11FractionalGames(t *testing.T) {
	t.Parallel()
	d, counts := newDrafter(), map[string]int{}
	for i, f := range fractional(t, 500) {
		d.wantDrawn(t, fmt.Sprint("fractional game ", i), f, counts)
	}
	wantKinds(t, counts, 20, "number", "at 0", "at a point", "between points", "behind all points", "bent", "negative mean", "fractional mean", "fractional temperature")
}

// threats has games in which the players threaten ever more, mostly by turns, so that the walls have many slopes.
func threats(t *testing.T, count int) []impl.Form {
	t.Helper()
	step := 9
	roll := func(n int) int {
		step = step * 48271 % 2147483647
		return step / 64 % n
	}
	var l []impl.Form
	f, size := nimber(1), 1
	for len(l) < count {
		lists := [2][]impl.Form{{f}, {integer(-size)}}
		if roll(3) == 0 {
			lists[1] = []impl.Form{numberForm(t, dyadic(1-2*size, 1))}
		}
		if roll(3) == 0 {
			lists[0] = append(lists[0], integer(roll(size)))
		}
		if len(l) > 3 && roll(3) == 0 {
			lists[roll(2)] = append(lists[roll(2)], l[len(l)-1-roll(4)])
		}
		if roll(5) > 0 {
			lists = [2][]impl.Form{allNegated(t, lists[1]), allNegated(t, lists[0])}
		}
		g, ok := impl.MakeForm(lists[0], lists[1])
		if size += 1 + roll(2); !ok || len(g.Nodes) > 70 || size > 25 {
			f, size = nimber(roll(2)), 1+roll(4)
			continue
		}
		l, f = append(l, g), g
	}
	return l
}

func TestP11WallsOfManySlopes(t *testing.T) {
	t.Parallel()
	d, counts := newDrafter(), map[string]int{}
	for i, f := range threats(t, 400) {
		d.wantDrawn(t, fmt.Sprint("threat ", i), f, counts)
		d.wantDrawn(t, fmt.Sprint("the negative of threat ", i), negated(t, f), counts)
		thermo, _ := impl.ThermoOf(f)
		counts[fmt.Sprint("left ", len(thermo.Left))]++
		counts[fmt.Sprint("right ", len(thermo.Right))]++
	}
	wantKinds(t, counts, 15, "number", "at 0", "at a point", "between points", "behind all points", "bent", "crooked", "negative mean", "fractional mean", "fractional temperature")
	wantKinds(t, counts, 5, "left 4", "right 4", "right 5", "right 6")
}

// plainGoodWall is by the document's words.
func plainGoodWall(w []impl.Point) bool {
	if len(w) < 1 || len(w) > mostPoints || w[0].At != (impl.Dyadic{}) {
		return false
	}
	for _, p := range w {
		if !impl.GoodDyadic(p.At) || !impl.GoodDyadic(p.Val) {
			return false
		}
	}
	one, s := big.NewRat(1, 1), sketchOf(w)
	for i := 1; i < len(w); i++ {
		if s.temps[i-1].Cmp(s.temps[i]) >= 0 {
			return false
		}
		slope := s.slopeBefore(i)
		if slope.Sign() != 0 && new(big.Rat).Abs(slope).Cmp(one) != 0 {
			return false
		}
	}
	for i := 1; i < len(w); i++ {
		if s.slopeBefore(i).Cmp(s.slopeBefore(i+1)) == 0 {
			return false
		}
	}
	return true
}

// wantNoWall gives WallAt temperatures at which a valid wall has a value.
func wantNoWall(t *testing.T, name string, w []impl.Point) {
	t.Helper()
	wantWall(t, name, w, false)
	for _, temp := range []impl.Dyadic{{}, dyadic(1, 0), dyadic(1, 1), dyadic(1000000, 0), dyadic(-1, 0), dyadic(2, 1)} {
		d, ok := impl.WallAt(w, temp)
		wantNoDyadic(t, fmt.Sprintf("WallAt of %s at %v", name, temp), d, ok)
	}
}

// wantValuesOfWall checks a valid wall at points, between and behind them.
func wantValuesOfWall(t *testing.T, name string, w []impl.Point) {
	t.Helper()
	wantWall(t, name, w, true)
	for _, temp := range tempsAlong(impl.Thermo{Left: w}) {
		d, ok := impl.WallAt(w, temp)
		wantValue(t, fmt.Sprintf("WallAt of %s at %v", name, temp), d, ok, sketchOf(w).at(valueOf(temp)))
	}
	for _, temp := range append(invalidDyadics(), numbers(t, "-1 -1/2 -1/65536 -1000000")...) {
		d, ok := impl.WallAt(w, temp)
		wantNoDyadic(t, fmt.Sprintf("WallAt of %s at %v", name, temp), d, ok)
	}
}

// zigzag has slopes that take turns, and the last step is not level.
func zigzag(points int, first int, second int) []impl.Point {
	w := []impl.Point{{}}
	for i := 1; i < points; i++ {
		slope := first
		if (points-i)%2 == 0 {
			slope = second
		}
		last := w[i-1]
		w = append(w, impl.Point{At: dyadic(last.At.Top+i, 0), Val: dyadic(last.Val.Top+i*slope, 0)})
	}
	return w
}

func TestP11GoodWalls(t *testing.T) {
	t.Parallel()
	for _, s := range strings.Split("0:0|0:1000000|0:-999999/65536|0:4 3/2:5/2|0:2 1:2 3/2:5/2|0:0 1:1|0:0 1:-1|0:0 1:1 2:0|0:0 1:-1 2:0|0:0 1:0 2:1|0:0 1:0 2:-1|0:0 1:1 2:1 3:2|0:0 1:1 2:1 3:0|0:-1 1/2:-1/2 3/4:-3/4 9:15/2|0:0 1/65536:1/65536|0:1/65536 1/65536:0|0:0 1000000:1000000|0:1000000 1000000:0|0:-1000000 1000000:0", "|") {
		w := wallFrom(t, s)
		wantValuesOfWall(t, s, w)
		wantValuesOfWall(t, "turned "+s, turnedWall(w))
	}
	for points := 1; points <= mostPoints; points++ {
		for _, slopes := range [][2]int{{1, 0}, {-1, 0}, {1, -1}, {-1, 1}} {
			wantValuesOfWall(t, fmt.Sprintf("%d points of slopes %v", points, slopes), zigzag(points, slopes[0], slopes[1]))
		}
	}
}

func TestP11WallsThatAreNotValid(t *testing.T) {
	t.Parallel()
	wantNoWall(t, "nil", nil)
	wantNoWall(t, "an empty slice", []impl.Point{})
	wantNoWall(t, "no points of many", make([]impl.Point, 0, 5))
	for kind, walls := range map[string]string{
		"not from 0":        "1:0|-1:0|1/2:0|-1:1 0:0|1:1 2:2|1/65536:0|-1:-1 0:0 1:1",
		"not in order":      "0:0 0:0|0:0 0:1|0:0 1:1 1:1|0:0 1:1 1:0|0:0 2:2 1:1|0:0 -1:1|0:0 1:1 0:0|0:0 1:1 1/2:1/2|0:0 -1:-1|0:1 -1:0 1:1|0:0 1:0 0:1",
		"of another slope":  "0:0 1:2|0:0 1:-2|0:0 1:1/2|0:0 2:1|0:0 2:-1|0:0 1:3|0:0 1/2:1|0:0 1:1 2:3|0:0 1:1 3:2|0:4 3/2:3|0:0 1/65536:1|0:0 1:65537/65536|0:0 1:1 2:-1|0:0 1:1 3:0|0:0 1:-1 2:2",
		"of the same slope": "0:0 1:1 2:2|0:0 1:-1 2:-2|0:0 1:0 2:0|0:0 1:0 2:0 3:1|0:0 1:1 2:2 3:2 4:3|0:0 1:1 3:3|0:0 1/2:1/2 1:1|0:2 1:1 2:0|0:0 1:1 2:1 3:1 4:2|0:0 1:1 2:0 3:-1",
		"level in the end":  "0:0 1:0|0:5 1/65536:5|0:0 1:1 2:1|0:0 1:-1 2:-1|0:2 1:2 3/2:5/2 2:5/2|0:0 1000000:0|0:4 3/2:5/2 2:5/2",
		"level all the way": "0:1 1:1 2:1|0:1 1:1 2:1 3:1",
		"of two ways wrong": "1:0 0:0|0:0 1:2 0:0|1:0 2:0",
	} {
		for _, s := range strings.Split(walls, "|") {
			w := wallFrom(t, s)
			wantNoWall(t, kind+": "+s, w)
			wantNoWall(t, kind+", turned: "+s, turnedWall(w))
		}
	}
	for _, bad := range invalidDyadics() {
		for i := range 3 {
			for _, w := range [][]impl.Point{wallFrom(t, "0:0 1:1 2:0"), wallFrom(t, "0:2 1:2 3/2:5/2"), zigzag(mostPoints, 1, -1)} {
				at, val := slices.Clone(w), slices.Clone(w)
				at[i].At, val[i].Val = bad, bad
				wantWall(t, "an invalid temperature", at, false)
				wantWall(t, "an invalid value", val, false)
				if i == 0 {
					wantNoWall(t, "only an invalid temperature", at[:1])
					wantNoWall(t, "only an invalid value", val[:1])
				}
			}
		}
	}
	for points := mostPoints + 1; points <= mostPoints+3; points++ {
		for _, slopes := range [][2]int{{1, 0}, {-1, 0}, {1, -1}, {-1, 1}} {
			wantNoWall(t, fmt.Sprint(points, " points"), zigzag(points, slopes[0], slopes[1]))
		}
	}
	wantNoWall(t, "very many points", zigzag(1000, 1, -1))
}

// What looks like a point may be one that is not in lowest terms.
func TestP11PointsThatAreNotInLowestTerms(t *testing.T) {
	t.Parallel()
	point := func(at impl.Dyadic, val impl.Dyadic) impl.Point { return impl.Point{At: at, Val: val} }
	for i, w := range [][]impl.Point{
		{point(dyadic(0, 1), dyadic(0, 0))},
		{point(dyadic(0, 0), dyadic(2, 1))},
		{point(dyadic(0, 0), dyadic(0, 0)), point(dyadic(2, 1), dyadic(1, 0))},
		{point(dyadic(0, 0), dyadic(0, 0)), point(dyadic(1, 0), dyadic(4, 2))},
		{point(dyadic(0, 0), dyadic(0, 0)), point(dyadic(1, 17), dyadic(1, 17))},
		{point(dyadic(0, 0), dyadic(0, 0)), point(dyadic(1000001, 0), dyadic(1000001, 0))},
		{point(dyadic(0, 0), dyadic(1000001, 0)), point(dyadic(1, 0), dyadic(1000000, 0))},
	} {
		wantNoWall(t, fmt.Sprint("wall ", i), w)
	}
}

func TestP11EveryShortWall(t *testing.T) {
	t.Parallel()
	temps, values := numbers(t, "0 1 2 1/2 -1"), numbers(t, "0 1 -1 2 1/2")
	var all []impl.Point
	for _, at := range temps {
		for _, val := range values {
			all = append(all, impl.Point{At: at, Val: val})
		}
	}
	good := 0
	walls := [][]impl.Point{nil}
	for points := 1; points <= 3; points++ {
		var longer [][]impl.Point
		for _, w := range walls {
			for _, p := range all {
				longer = append(longer, append(slices.Clone(w), p))
			}
		}
		walls = longer
		for _, w := range walls {
			want := plainGoodWall(w)
			if impl.GoodWall(w) != want {
				wantWall(t, "a short wall", w, want)
			}
			d, ok := impl.WallAt(w, dyadic(3, 2))
			if !want {
				wantNoDyadic(t, fmt.Sprint("WallAt of ", w), d, ok)
				continue
			}
			wantValue(t, fmt.Sprint("WallAt of ", w), d, ok, sketchOf(w).at(big.NewRat(3, 4)))
			good++
		}
	}
	if good < 30 {
		t.Error("only", good, "valid walls")
	}
}

// At these temperatures, which are valid, the walls have values that are not.
func TestP11ValuesThatAreNotValid(t *testing.T) {
	t.Parallel()
	for wall, temps := range map[string]string{
		"0:20 1:19":                "1/65536 65535/65536 3/65536",
		"0:-20 1:-19":              "1/65536 65535/65536 3/65536",
		"0:1000000 1:999999":       "1/2 1/65536 1/4",
		"0:-1000000 1:-999999":     "1/2 1/65536",
		"0:999999 1:1000000":       "1/2",
		"0:0 20:20":                "",
		"0:0 1000:1000 2000:0":     "",
		"0:16 1:17":                "1/65536",
		"0:500000 2:500002":        "1/4 3/4 7/4",
		"0:500000 1000000:-500000": "1/8 7/8",
	} {
		w := wallFrom(t, wall)
		wantValuesOfWall(t, wall, w)
		for _, temp := range numbers(t, temps) {
			d, ok := impl.WallAt(w, temp)
			wantNoDyadic(t, fmt.Sprintf("WallAt of %s at %v", wall, temp), d, ok)
		}
	}
	for game, temps := range map[string]string{
		"{20|0}": "1/65536 3/65536", "{0|-20}": "1/65536", "{20|18}": "1/65536", "{16|-16}": "1/65536", "{59|57}": "1/32768 1/65536",
	} {
		for _, temp := range numbers(t, temps) {
			wantNoCoolStops(t, game, spelled(t, game), temp)
		}
	}
}

func TestP11WallsAtKnownTemperatures(t *testing.T) {
	t.Parallel()
	for wall, values := range map[string]string{
		"0:4 3/2:5/2":        "0 4 1/2 7/2 1 3 3/2 5/2 2 5/2 1000000 5/2 1/65536 262143/65536",
		"0:2 1:2 3/2:5/2":    "0 2 1/2 2 1 2 5/4 9/4 3/2 5/2 9 5/2 999999 5/2",
		"0:-1":               "0 -1 1/2 -1 1000000 -1 999999/65536 -1",
		"0:0 1:-1 2:-1 4:1":  "0 0 1/4 -1/4 1 -1 3/2 -1 2 -1 3 0 7/2 1/2 4 1 5 1",
		"0:-3 1/2:-7/2 1:-3": "0 -3 1/4 -13/4 1/2 -7/2 3/4 -13/4 1 -3 3/2 -3",
	} {
		pairs := numbers(t, values)
		for i := 0; i < len(pairs); i += 2 {
			d, ok := impl.WallAt(wallFrom(t, wall), pairs[i])
			wantDyadic(t, fmt.Sprintf("WallAt of %s at %v", wall, pairs[i]), d, ok, pairs[i+1])
		}
	}
}

func TestP11CoolStopsOfKnownGames(t *testing.T) {
	t.Parallel()
	for game, table := range map[string]string{
		"{4|{2|0}}":       "0 4 2 1/2 7/2 2 1 3 2 5/4 11/4 9/4 3/2 5/2 5/2 2 5/2 5/2 1000000 5/2 5/2",
		"{3|-1}":          "0 3 -1 1/2 5/2 -1/2 1 2 0 2 1 1 3 1 1",
		"{{9|1}|-2}":      "0 1 -2 1 1 -1 3 1 1 4 1 1 5 1 1",
		"{2,{5|1}|-3}":    "0 2 -3 1/2 3/2 -5/2 1 1 -2 3/2 1 -3/2 2 1 -1 5/2 1/2 -1/2 3 0 0 4 0 0",
		"{{9|1}|{-1|-9}}": "0 1 -1 2 1 -1 4 1 -1 9/2 1/2 -1/2 5 0 0 6 0 0",
		"{{1|1/4}|-1}":    "0 1/4 -1 3/8 1/4 -5/8 1/2 1/8 -1/2 13/16 -3/16 -3/16 1 -3/16 -3/16",
		"*":               "0 0 0 1/65536 0 0 1000000 0 0",
		"-3/4":            "0 -3/4 -3/4 1/2 -3/4 -3/4 7 -3/4 -3/4",
		"{{-1|1}|{*|*}}":  "0 0 0 1 0 0",
		"{-1/2|-3/2}":     "0 -1/2 -3/2 1/4 -3/4 -5/4 1/2 -1 -1 1 -1 -1",
	} {
		f := spelled(t, game)
		rows := numbers(t, table)
		for i := 0; i < len(rows); i += 3 {
			a, b, ok := impl.CoolStops(f, rows[i])
			if a != rows[i+1] || b != rows[i+2] || !ok {
				t.Errorf("CoolStops of %s at %v = %v, %v, %v, want %v, %v, true", game, rows[i], a, b, ok, rows[i+1], rows[i+2])
			}
		}
		for _, temp := range append(invalidDyadics(), numbers(t, "-1 -1/65536 -1000000")...) {
			wantNoCoolStops(t, game, f, temp)
		}
	}
}

func hotGames(t *testing.T) []impl.Form {
	t.Helper()
	return append(manyGames(t), threats(t, 150)...)
}

func thermoOf(t *testing.T, name string, f impl.Form) impl.Thermo {
	t.Helper()
	thermo, ok := impl.ThermoOf(f)
	if !ok {
		t.Fatal("no thermograph of", name)
	}
	return thermo
}

func TestP11WallsBeginAtTheStopsAndMeetAtTheMean(t *testing.T) {
	t.Parallel()
	for i, f := range append(hotGames(t), longest()...) {
		name := fmt.Sprint("game ", i)
		thermo := thermoOf(t, name, f)
		d, ok := impl.LeftStop(f)
		wantDyadic(t, "the left wall at 0 and the left stop of "+name, d, ok, thermo.Left[0].Val)
		d, ok = impl.RightStop(f)
		wantDyadic(t, "the right wall at 0 and the right stop of "+name, d, ok, thermo.Right[0].Val)
		left, right := sketchOf(thermo.Left), sketchOf(thermo.Right)
		temp, mean := valueOf(thermo.Temp), valueOf(thermo.Mean)
		for _, d := range append(tempsAlong(thermo), smallDyadics(3, 2)...) {
			at := valueOf(d)
			if at.Sign() < 0 {
				continue
			}
			order := left.at(at).Cmp(right.at(at))
			if want := max(0, temp.Cmp(at)); order != want {
				t.Errorf("the walls of %s compare as %d at %v, and the temperature is %v", name, order, at, temp)
			}
			if at.Cmp(temp) >= 0 && left.at(at).Cmp(mean) != 0 {
				t.Errorf("the mean of %s is %v, and the wall at %v is %v", name, mean, at, left.at(at))
			}
		}
		for k, w := range [][]impl.Point{thermo.Left, thermo.Right} {
			for i := 1; i < len(w); i++ {
				if slope := sketchOf(w).slopeBefore(i).Sign(); slope == 1-2*k {
					t.Errorf("wall %d of %s leans to the wrong side", k, name)
				}
			}
		}
		_, is := impl.NumberOf(f)
		if number := thermo.Temp.Top < 0; number != is || number && thermo.Temp != dyadic(-1, 0) {
			t.Errorf("the temperature of %s is %v, and it is a number: %v", name, temp, is)
		}
	}
}

// cooled takes the mean above the temperature, and makes each move dearer below it.
func cooled(t *testing.T, f impl.Form, temp impl.Dyadic) impl.Form {
	t.Helper()
	thermo := thermoOf(t, "a game to cool", f)
	if thermo.Temp.Top < 0 || valueOf(thermo.Temp).Cmp(valueOf(temp)) < 0 {
		return numberForm(t, thermo.Mean)
	}
	left, right, _ := impl.OptionsOf(f)
	for side, options := range [][]impl.Form{left, right} {
		for i, option := range options {
			cost := []impl.Dyadic{minus(temp), temp}[side]
			moved, ok := impl.PlusNumber(cooled(t, option, temp), cost)
			if !ok {
				t.Fatal("no sum with", cost)
			}
			options[i] = moved
		}
	}
	return canonOf(t, made(t, left, right))
}

func TestP11CoolStopsAreTheStopsOfCooledGames(t *testing.T) {
	t.Parallel()
	checked := 0
	for i, f := range hotGames(t) {
		if len(f.Nodes) > 20 || i%2 > 0 && i < 500 {
			continue
		}
		thermo := thermoOf(t, "a game", f)
		for _, temp := range append(numbers(t, "0 1/4 1"), thermo.Temp) {
			if temp.Top < 0 {
				continue
			}
			left, right := stopsOf(t, cooled(t, f, temp))
			a, b, ok := impl.CoolStops(f, temp)
			if !ok || valueOf(a).Cmp(left) != 0 || valueOf(b).Cmp(right) != 0 {
				t.Errorf("CoolStops of game %d at %v = %v, %v, %v, want %v, %v, true", i, temp, a, b, ok, left, right)
			}
			checked++
		}
	}
	if checked < 500 {
		t.Error("only", checked, "temperatures")
	}
}

// invalidWalls has games with stops of which a wall has a point that is not valid.
func invalidWalls(t *testing.T) map[string]impl.Form {
	t.Helper()
	all := map[string]impl.Form{}
	for _, game := range strings.Fields("{1/65536|0} {0|-1/65536} {1|65535/65536} {3/65536|0} {1/65536|-1/32768} {1/65536|-2} {1/65536*|*} {1/65536,0|0,1/65536} {1/4|1/65536} {{1/65536|0}|-1} {0|{0|-1/65536}}") {
		all[game] = spelled(t, game)
	}
	for name, ends := range map[string]string{
		// Of {a|b} the temperature is half of a - b, and the mean half of a + b.
		"a temperature above 15":   "524289/32768 -15",
		"a mean above 15":          "507905/32768 31/2",
		"a temperature and a mean": "31 1/32768",
		"a mean below -15":         "-31/2 -507905/32768",
	} {
		l := numbers(t, ends)
		all[name] = switchOf(t, l[0], l[1])
	}
	x := numberForm(t, dyadic(12*65536+1, 16))
	rising := made(t, []impl.Form{integer(31)}, []impl.Form{integer(-5)})
	// Left's best wall rises above x at 17 + 1/2^16, below the temperature 37/2.
	all["a point above 15"] = made(t, []impl.Form{x, rising}, []impl.Form{integer(-24)})
	return all
}

// placed has f at places where no other number or wall is invalid.
func placed(t *testing.T, f impl.Form) map[string]impl.Form {
	t.Helper()
	l := func(forms ...impl.Form) []impl.Form { return forms }
	low, high, zero := integer(-3), integer(2), zeroGame()
	deep := f
	for range 5 {
		deep = made(t, l(zero), l(made(t, l(deep), l(low))))
	}
	return map[string]impl.Form{
		"at the root": f, "as left option": made(t, l(f), l(low)), "as right option": made(t, l(high), l(f)), "on both sides": made(t, l(f), l(f)), "deep inside": deep,
		"beside others": made(t, l(high, f), l(low)), "beside others of Right": made(t, l(high), l(low, f)), "as a threat": made(t, l(made(t, l(f), l(low))), l(integer(-4))),
		"in a number": made(t, l(f), nil), "in a number of Right": made(t, nil, l(f)), "in a number of value 0": made(t, l(low), l(made(t, l(f, zero), nil))), "deep inside a number": made(t, l(low), l(made(t, l(deep, high), nil))),
		"in a reversible option": made(t, l(zero, made(t, l(made(t, l(f), l(low))), l(zero))), l(nimber(1))),
	}
}

func TestP11WallsThatAreNotValidAnywhere(t *testing.T) {
	t.Parallel()
	for name, f := range invalidWalls(t) {
		stopsOf(t, f)
		for place, g := range placed(t, f) {
			wantNoThermo(t, name+" "+place, g)
			wantNoThermo(t, "the negative of "+name+" "+place, negated(t, g))
		}
	}
	d, counts := newDrafter(), map[string]int{}
	for name, f := range invalidWalls(t) {
		for place, g := range placed(t, f) {
			d.wantDrawn(t, name+" "+place, g, counts)
		}
	}
	wantKinds(t, counts, counts["all"], "none")
	// With valid walls at the same places there are thermographs.
	counts = map[string]int{}
	for _, game := range strings.Fields("{1/32768|0} {1/65536|-1/65536} {1|1/2} {3|-1} {4|{2|0}} {1/2|-3} * 1/65536 {0|2} {1/65536|1/65536}") {
		for place, g := range placed(t, spelled(t, game)) {
			d.wantDrawn(t, game+" "+place, g, counts)
			d.wantDrawn(t, "the negative of "+game+" "+place, negated(t, g), counts)
		}
	}
	if counts["none"] > 60 {
		t.Error("games without walls", counts)
	}
	wantKinds(t, counts, 10, "number", "fractional mean", "negative mean", "bent", "disguised")
}

func TestP11NumbersThatAreNotValid(t *testing.T) {
	t.Parallel()
	for name, f := range invalidNumbers(t) {
		for place, g := range holding(t, f) {
			wantNoThermo(t, name+" "+place, g)
		}
	}
	zero, half := []impl.Form{zeroGame()}, invalidNumbers(t)["1/2^17"]
	for i, f := range []impl.Form{made(t, zero, []impl.Form{half, nimber(1)}), made(t, append(zero, made(t, []impl.Form{integer(-1)}, []impl.Form{half})), zero), made(t, zero, []impl.Form{invalidWalls(t)["{1/65536|0}"]})} {
		for len(f.Nodes) < mostNodes {
			f = made(t, zero, []impl.Form{f})
			wantNoThermo(t, fmt.Sprintf("%d nodes above (%d)", len(f.Nodes), i), f)
		}
	}
	for i, f := range append(sample(), fractional(t, 60)...) {
		left, right, _ := impl.OptionsOf(f)
		for k, bad := range []impl.Form{half, invalidWalls(t)["{1/65536|0}"]} {
			wantNoThermo(t, fmt.Sprintf("mixed game %d with bad option %d of Left", i, k), made(t, append(left, bad), right))
			wantNoThermo(t, fmt.Sprintf("mixed game %d with bad option %d of Right", i, k), made(t, left, append(right, bad)))
		}
	}
}

// Only what is in the walls must be valid: behind the temperature there may be numbers that are not.
func TestP11NumbersBehindTheTemperature(t *testing.T) {
	t.Parallel()
	x, y := numberForm(t, dyadic(12*65536+1, 16)), numberForm(t, dyadic(-10*65536-1, 16))
	rising := made(t, []impl.Form{integer(31)}, []impl.Form{integer(-5)})
	want := thermoFrom(t, "720897/65536 1|0:786433/65536 720897/65536:1|0:-655361/65536 720897/65536:1")
	f := made(t, []impl.Form{x, rising}, []impl.Form{y})
	wantThermo(t, "walls that would meet at 17 + 1/2^16", f, want)
	wantThermo(t, "its negative", negated(t, f), turnedThermo(want))
	// These walls are nowhere else than at points, and beside them they have values that are not valid.
	wantThermo(t, "{20|-20}", spelled(t, "{20|-20}"), thermoFrom(t, "20 0|0:20 20:0|0:-20 20:0"))
	newDrafter().wantDrawn(t, "walls that would meet at 17 + 1/2^16", f, map[string]int{})
}

// tallThreats has a game for each number of points, of walls that lean and stand by turns; each is an option of the next one.
func tallThreats(t *testing.T) []impl.Form {
	t.Helper()
	temp, mean := dyadic(1, 0), dyadic(1, 0)
	plus := func(l ...impl.Dyadic) impl.Dyadic {
		sum := impl.Dyadic{}
		for _, d := range l {
			sum, _ = impl.AddDyadic(sum, d)
		}
		return sum
	}
	l := []impl.Form{integer(1), switchOf(t, dyadic(2, 0), dyadic(0, 0))}
	// These steps, in eighths, are such that the numbers have few nodes.
	for _, eighths := range ints(8, 4, 4, 2, 2, 6, 4, 2, 6, 2, 2, 2, 2, 2, 2, 4, 2, 4, 2, 4, 2, 4, 2, 1, 4, 2, 2, 1, 4, 4, 4, 4, 4, 4, 2, 1, 2, 1, 1) {
		step, _ := impl.MakeDyadic(eighths, 3)
		temp = plus(temp, step)
		f, last := impl.Form{}, l[len(l)-1]
		if len(l)%2 == 0 {
			f = made(t, []impl.Form{last}, []impl.Form{numberForm(t, plus(mean, minus(temp), minus(temp)))})
			mean = plus(mean, minus(temp))
		} else {
			f = made(t, []impl.Form{numberForm(t, plus(mean, temp, temp))}, []impl.Form{last})
			mean = plus(mean, temp)
		}
		l = append(l, f)
	}
	return l
}

func TestP11MostPoints(t *testing.T) {
	t.Parallel()
	d, counts := newDrafter(), map[string]int{}
	for i, f := range tallThreats(t) {
		name := fmt.Sprint("a wall of ", i+1, " points")
		d.wantDrawn(t, name, f, counts)
		d.wantDrawn(t, "the negative of "+name, negated(t, f), counts)
		if i == mostPoints {
			wantNoThermo(t, name, f)
			continue
		}
		thermo := thermoOf(t, name, f)
		if max(len(thermo.Left), len(thermo.Right)) != i+1 {
			t.Errorf("the walls of %s have %d and %d points", name, len(thermo.Left), len(thermo.Right))
		}
	}
	l := tallThreats(t)
	for low := -6; low <= 6; low++ {
		for k, f := range []impl.Form{l[mostPoints-1], l[mostPoints]} {
			for side, g := range []impl.Form{made(t, []impl.Form{f}, []impl.Form{integer(low)}), made(t, []impl.Form{integer(low)}, []impl.Form{f})} {
				name := fmt.Sprintf("%d against many points (%d, %d)", low, k, side)
				d.wantDrawn(t, name, g, counts)
				if k == 1 {
					wantNoThermo(t, name, g)
				}
			}
		}
	}
	wantKinds(t, counts, 25, "crooked", "none", "fractional mean", "fractional temperature", "negative mean")
	wantKinds(t, counts, 3, "at a point", "between points")
}

// wantDefined checks the walls of a game at many temperatures against those of its options.
func wantDefined(t *testing.T, name string, f impl.Form) {
	t.Helper()
	thermo := thermoOf(t, name, f)
	if d, is := impl.NumberOf(f); is {
		wantThermo(t, name, f, mast(d))
		return
	}
	lefts, rights, _ := impl.OptionsOf(f)
	var sides [2]trellis
	for side, options := range [][]impl.Form{lefts, rights} {
		sides[side].side = side
		for _, option := range options {
			behind := thermoOf(t, "an option of "+name, option)
			sides[side].walls = append(sides[side].walls, sketchOf([][]impl.Point{behind.Right, behind.Left}[side]))
		}
	}
	temp := valueOf(thermo.Temp)
	walls := []sketch{sketchOf(thermo.Left), sketchOf(thermo.Right)}
	for _, d := range append(tempsAlong(thermo), smallDyadics(2, 2)...) {
		at := valueOf(d)
		if at.Sign() < 0 {
			continue
		}
		if at.Cmp(temp) < 0 && sides[0].at(at).Cmp(sides[1].at(at)) <= 0 {
			t.Errorf("the sides of %s meet at %v, below the temperature %v", name, at, temp)
		}
		for side, w := range walls {
			want := valueOf(thermo.Mean)
			if at.Cmp(temp) <= 0 {
				want = sides[side].at(at)
			}
			if w.at(at).Cmp(want) != 0 {
				t.Errorf("wall %d of %s is %v at %v, want %v", side, name, w.at(at), at, want)
			}
		}
	}
}

func TestP11WallsComeFromThoseOfTheOptions(t *testing.T) {
	t.Parallel()
	for i, f := range append(append(hotGames(t), longest()...), tangles(60, 10)...) {
		wantDefined(t, fmt.Sprint("game ", i), f)
	}
}

func TestP11HottestOfLists(t *testing.T) {
	t.Parallel()
	zero, one, star, up := zeroGame(), integer(1), nimber(1), short(t, "^")
	mild, hot, hotter := spelled(t, "{1|0}"), spelled(t, "~2"), spelled(t, "{9|1}")
	for name, row := range map[string]struct {
		l    []impl.Form
		want int
	}{
		"one game":                       {[]impl.Form{star}, 0},
		"one number":                     {[]impl.Form{one}, 0},
		"the first":                      {[]impl.Form{hot, mild, star}, 0},
		"the last":                       {[]impl.Form{zero, star, mild, hot}, 3},
		"one between":                    {[]impl.Form{mild, hot, star}, 1},
		"alike from the first":           {[]impl.Form{hot, hot, hot}, 0},
		"alike later":                    {[]impl.Form{zero, mild, hot, star, hot, hot}, 2},
		"as hot in other places":         {[]impl.Form{mild, spelled(t, "{5|1}"), hot, spelled(t, "{-1|-5}")}, 1},
		"as hot in other forms":          {[]impl.Form{star, spelled(t, "{2,1|-2}"), hot}, 1},
		"numbers":                        {[]impl.Form{one, zero, integer(-5), numberForm(t, dyadic(1, 1))}, 0},
		"numbers that are not canonical": {[]impl.Form{spelled(t, "{~1|~1}"), spelled(t, "{{9|0}|{0|-9}}"), zero}, 0},
		"a number and what is cold":      {[]impl.Form{one, star, up}, 1},
		"cold games and a number":        {[]impl.Form{zero, up, one, star}, 1},
		"numbers among others":           {[]impl.Form{one, mild, zero, hot, one}, 3},
		"negatives":                      {[]impl.Form{negated(t, mild), negated(t, hot), hot}, 1},
		"fractions":                      {[]impl.Form{spelled(t, "{1|3/4}"), spelled(t, "{1|1/2}"), spelled(t, "{1|1/4}"), spelled(t, "{1|7/8}")}, 2},
		"a little hotter":                {[]impl.Form{spelled(t, "{1|1/32768}"), spelled(t, "{1|0}"), spelled(t, "{1|-1/32768}"), spelled(t, "{1|1/16384}")}, 2},
		"the mean does not count":        {[]impl.Form{spelled(t, "{59|58}"), spelled(t, "{-20|-22}"), star}, 1},
		"nor does the left stop":         {[]impl.Form{spelled(t, "{20|19}"), hotter, spelled(t, "{{9|1}|-2}")}, 1},
	} {
		wantHottest(t, name, row.l, row.want)
	}
	many := slices.Repeat([]impl.Form{mild}, 24)
	wantHottest(t, "24 games that are alike", many, 0)
	for i := range many {
		l := slices.Clone(many)
		l[i] = hot
		wantHottest(t, "24 games", l, i)
		wantHottest(t, "the games up to the hottest", l[:i+1], i)
		l[23] = hotter
		wantHottest(t, "24 games, of which the last is the hottest", l, 23)
		l[i] = spelled(t, "{1/65536|0}")
		wantNoHottest(t, "24 games of which one has no walls", l)
		l[i] = impl.Form{}
		wantNoHottest(t, "24 games of which one is no form", l)
	}
}

func TestP11HottestOfNoLists(t *testing.T) {
	t.Parallel()
	for name, l := range map[string][]impl.Form{
		"nil": nil, "no game": {}, "no game of many": make([]impl.Form, 0, 9),
		"25 games": slices.Repeat([]impl.Form{nimber(1)}, 25), "25 numbers": slices.Repeat([]impl.Form{zeroGame()}, 25), "26 games": slices.Repeat([]impl.Form{short4()}, 26), "many games": slices.Repeat([]impl.Form{short4()}, 1000),
		"no form": {{}}, "no form first": {{}, short4()}, "no form last": {short4(), {}}, "no form between": {short4(), {}, nimber(1)},
		"no walls": {spelled(t, "{1/65536|0}")}, "no walls after a hotter game": {short4(), spelled(t, "{1/65536|0}")}, "an invalid number": {short4(), invalidNumbers(t)["1/2^17"]},
	} {
		wantNoHottest(t, name, l)
	}
	for name, bad := range invalidForms() {
		for i := range 3 {
			l := []impl.Form{zeroGame(), short4(), nimber(1)}
			l[i] = bad
			wantNoHottest(t, name, l)
		}
	}
}

func TestP11HottestOfManyGames(t *testing.T) {
	t.Parallel()
	games := hotGames(t)
	for from := 0; from+24 <= len(games); from += 7 {
		for _, count := range ints(1, 5, 24) {
			l := games[from : from+count]
			want := 0
			for i, f := range l {
				if valueOf(thermoOf(t, "a game", f).Temp).Cmp(valueOf(thermoOf(t, "a game", l[want]).Temp)) > 0 {
					want = i
				}
			}
			wantHottest(t, fmt.Sprintf("%d games from %d", count, from), l, want)
		}
	}
}

// The limit of options is one of canonical forms, which walls do not ask for.
func TestP11MoreOptionsThanAFormMayHave(t *testing.T) {
	t.Parallel()
	d, counts := newDrafter(), map[string]int{}
	for _, nimbers := range ints(1, 23) {
		for _, switches := range ints(1, 9, mostOptions) {
			f, _, _ := wide(t, nimbers, switches)
			name := fmt.Sprintf("a game of %d nimbers and %d switches", nimbers, switches)
			_, ok := impl.CanonOf(f)
			wantBool(t, "CanonOf "+name, ok, true, nimbers+switches <= mostOptions)
			wantDefined(t, name, f)
			for _, g := range []impl.Form{f, negated(t, f), made(t, []impl.Form{f}, []impl.Form{integer(-26)}), made(t, []impl.Form{integer(26)}, []impl.Form{f}), made(t, []impl.Form{f, integer(26)}, nil)} {
				d.wantDrawn(t, name, g, counts)
			}
		}
	}
	wide, _, _ := wide(t, 23, mostOptions)
	wantThermo(t, "the widest game", wide, thermoFrom(t, "25/2 -25/2|0:0 25/2:-25/2|0:-25 25/2:-25/2"))
	for stars := 9; stars <= mostStar+1; stars++ {
		f, name := overfull(t, hots(t, stars, 5), saidAll(t, "-6"), 7), fmt.Sprint("a game of many options and ", stars, " stars")
		_, ok := impl.CanonOf(f)
		wantBool(t, "CanonOf "+name, ok, true, false)
		d.wantDrawn(t, name, f, counts)
		d.wantDrawn(t, "the negative of "+name, negated(t, f), counts)
		d.wantDrawn(t, "a number beside "+name, made(t, []impl.Form{f, integer(8)}, nil), counts)
	}
	for last := 7; last <= mostUps; last++ {
		wantThermo(t, fmt.Sprint("a wide game to ", last), wideSmall(t, last), cold(impl.Dyadic{}))
	}
	if counts["none"] > 0 {
		t.Error("games without walls", counts)
	}
}

func TestP11MostNodesAndOptions(t *testing.T) {
	t.Parallel()
	for n := 1; n <= mostOptions; n++ {
		both := cold(impl.Dyadic{})
		if n > 1 {
			both = switchThermo(t, dyadic(n-1, 0), impl.Dyadic{})
		}
		wantThermo(t, fmt.Sprint("all to both sides ", n), withAllOptions(n, true, true), both)
		wantThermo(t, fmt.Sprint("all to the left ", n), withAllOptions(n, true, false), mast(dyadic(n, 0)))
		wantThermo(t, fmt.Sprint("all to the right ", n), withAllOptions(n, false, true), mast(dyadic(-1, 0)))
	}
	for i := range mostNodes {
		tower, ladder := cold(impl.Dyadic{}), cold(impl.Dyadic{})
		// Every 25th node of a tower is equal to 0, and so is every second one of a ladder.
		if i%(mostOptions+1) == 0 {
			tower = mast(impl.Dyadic{})
		}
		if i%2 == 0 {
			ladder = mast(impl.Dyadic{})
		}
		if i%7 == 0 || i > 100 {
			wantThermo(t, fmt.Sprint("tower ", i), towerOf(i+1), tower)
		}
		wantThermo(t, fmt.Sprint("ladder ", i), ladderOf(i+1), ladder)
		wantThermo(t, fmt.Sprint("the integer ", i), integer(i), mast(dyadic(i, 0)))
		wantThermo(t, fmt.Sprint("the integer ", -i), integer(-i), mast(dyadic(-i, 0)))
	}
	for i, f := range append(longest(), tangleOf(mostNodes, 2, 77), tallOf(60, 4, 5), tallOf(90, 9, 3)) {
		wantDefined(t, fmt.Sprint("long game ", i), f)
		wantDefined(t, fmt.Sprint("the negative of long game ", i), negated(t, f))
	}
	f := made(t, chains(97, mostNodes-1), []impl.Form{integer(0)})
	wantThermo(t, "{96,..,118|0}", f, thermoFrom(t, "59 59|0:118 59:59|0:0 59:59"))
}

func TestP11ThermographsOfNegatives(t *testing.T) {
	t.Parallel()
	for i, f := range append(hotGames(t), longest()...) {
		name := fmt.Sprint("game ", i)
		wantThermo(t, "the negative of "+name, negated(t, f), turnedThermo(thermoOf(t, name, f)))
	}
}

func TestP11ThermographsOfEqualGames(t *testing.T) {
	t.Parallel()
	checked := 0
	same := func(name string, f impl.Form, g impl.Form) {
		want, got := thermoOf(t, name, f), thermoOf(t, name, g)
		if !sameThermo(got, want) {
			t.Errorf("ThermoOf %s = %v, want %v", name, got, want)
		}
		checked++
	}
	for i, row := range equalGames(t) {
		for k, f := range row {
			same(fmt.Sprintf("equal games %d (%d)", i, k), row[0], f)
		}
	}
	for i, f := range hotGames(t) {
		name := fmt.Sprint("game ", i)
		same("the canonical form of "+name, f, canonOf(t, f))
		dropped, ok := impl.DropForm(f)
		if !ok {
			t.Error("DropForm fails for game", i)
		}
		same(name+" without dominated options", f, dropped)
		if bypassed, ok := impl.BypassForm(f); ok {
			same(name+" with an option bypassed", f, bypassed)
		}
		if i%5 == 0 {
			for k, g := range equals(t, f) {
				// The options that equals adds may be bad only where there are others.
				if equal, ok := impl.EqualForms(f, g); ok && equal {
					same(fmt.Sprintf("%s (%d)", name, k), f, g)
				}
			}
		}
	}
	if checked < 2000 {
		t.Error("only", checked, "games")
	}
}

// wantMeansAdded expects a sum of which the temperature is that of a part at most.
func wantMeansAdded(t *testing.T, name string, sum impl.Form, parts ...impl.Form) bool {
	t.Helper()
	thermo, ok := impl.ThermoOf(sum)
	mean, hottest := new(big.Rat), big.NewRat(-1, 1)
	for _, part := range parts {
		of := thermoOf(t, name, part)
		mean.Add(mean, valueOf(of.Mean))
		if temp := valueOf(of.Temp); temp.Cmp(hottest) > 0 {
			hottest = temp
		}
	}
	if !ok {
		return false
	}
	if valueOf(thermo.Mean).Cmp(mean) != 0 {
		t.Errorf("the mean of the sum of %s is %v, want %v", name, thermo.Mean, mean)
	}
	if valueOf(thermo.Temp).Cmp(hottest) > 0 {
		t.Errorf("the temperature of the sum of %s is %v, above %v", name, thermo.Temp, hottest)
	}
	return true
}

func TestP11MeansOfSums(t *testing.T) {
	t.Parallel()
	var l []impl.Form
	for i, f := range hotGames(t) {
		if i%9 == 0 && len(f.Nodes) <= 40 {
			l = append(l, f)
		}
	}
	sums, hot := 0, 0
	for i, f := range l {
		for k, g := range l {
			if (i*7+k)%5 > 0 || len(f.Nodes)*len(g.Nodes) > 350 {
				continue
			}
			name := fmt.Sprintf("games %d and %d", i, k)
			for _, sum := range sumsOf(f, g) {
				if !wantMeansAdded(t, name, sum, f, g) {
					t.Error("no thermograph of the sum of", name)
				}
				sums++
				hot += max(0, min(1, thermoOf(t, name, sum).Temp.Top))
			}
		}
	}
	if sums < 500 || hot < 100 {
		t.Error("only", sums, "sums, of which hot", hot)
	}
}

// sumsOf has the sum as it stands and in canonical form, as far as they are valid.
func sumsOf(f impl.Form, g impl.Form) []impl.Form {
	var l []impl.Form
	if sum, ok := impl.SumForms(f, g); ok {
		l = append(l, sum)
	}
	if sum, ok := impl.CanonSum([]impl.Form{f, g}); ok {
		l = append(l, sum)
	}
	return l
}

func TestP11MeansOfKnownSums(t *testing.T) {
	t.Parallel()
	for sum, want := range map[string]string{
		"~1+~1":               "-1 0",
		"~2+~1":               "2 0",
		"{3|-1}+{3|-1}":       "-1 2",
		"{4|{2|0}}+{4|{2|0}}": "1 5",
		"{1|0}+~1":            "1 1/2",
		"*+*":                 "-1 0",
		"*+^":                 "0 0",
		"{1|0}+{1|0}":         "-1 1",
		"{5/2|-1/2}+1/4":      "3/2 5/4",
		"~3-{4|{2|0}}":        "3 -5/2",
	} {
		f := said(t, sum)
		ends := numbers(t, want)
		d, ok := impl.MeanOf(f)
		wantDyadic(t, "MeanOf "+sum, d, ok, ends[1])
		if temp, ok := impl.TempOf(f); !ok || valueOf(temp).Cmp(valueOf(ends[0])) > 0 {
			t.Errorf("TempOf %s = %v, %v, want at most %v, true", sum, temp, ok, ends[0])
		}
	}
}

// A number moves the walls, and leaves the temperature of what is no number.
func TestP11SumsWithNumbers(t *testing.T) {
	t.Parallel()
	checked := 0
	for i, f := range hotGames(t) {
		thermo := thermoOf(t, "a game", f)
		for _, x := range numbers(t, "0 1 -1/2 3/4") {
			moved := impl.Thermo{Temp: thermo.Temp}
			plus := func(d impl.Dyadic) impl.Dyadic {
				sum, ok := impl.AddDyadic(d, x)
				if !ok {
					t.Fatal("no sum of", d, x)
				}
				return sum
			}
			for _, p := range thermo.Left {
				moved.Left = append(moved.Left, impl.Point{At: p.At, Val: plus(p.Val)})
			}
			for _, p := range thermo.Right {
				moved.Right = append(moved.Right, impl.Point{At: p.At, Val: plus(p.Val)})
			}
			moved.Mean = plus(thermo.Mean)
			name := fmt.Sprintf("game %d and %v", i, x)
			if g, ok := impl.PlusNumber(f, x); ok {
				wantThermo(t, name, g, moved)
				checked++
			}
			if g, ok := impl.SumForms(f, numberForm(t, x)); ok && i%3 == 0 {
				wantThermo(t, name+" as they are", g, moved)
			}
		}
	}
	if checked < 2000 {
		t.Error("only", checked, "sums")
	}
}

// The stops of many copies of a game are within its temperature of as many means.
func TestP11MeansOfManyCopies(t *testing.T) {
	t.Parallel()
	checked := 0
	for i, f := range hotGames(t) {
		if len(f.Nodes) > 12 {
			continue
		}
		thermo := thermoOf(t, "a game", f)
		sum := zeroGame()
		for n := 1; n <= 4; n++ {
			next, ok := impl.CanonSum([]impl.Form{sum, f})
			if !ok {
				break
			}
			sum = next
			left, right := stopsOf(t, sum)
			mean := new(big.Rat).Mul(big.NewRat(int64(n), 1), valueOf(thermo.Mean))
			near := new(big.Rat).Add(big.NewRat(1, 65536), valueOf(thermo.Temp))
			if thermo.Temp.Top < 0 {
				near = new(big.Rat)
			}
			for _, stop := range []*big.Rat{left, right} {
				if off := new(big.Rat).Sub(stop, mean); off.Abs(off).Cmp(near) > 0 {
					t.Errorf("a stop of %d times game %d is %v, and the mean is %v", n, i, stop, mean)
				}
				checked++
			}
		}
	}
	if checked < 800 {
		t.Error("only", checked, "stops")
	}
}

func TestP11InvalidForms(t *testing.T) {
	t.Parallel()
	for name, bad := range invalidForms() {
		wantNoThermo(t, name, bad)
	}
}

func TestP11NilAndEmpty(t *testing.T) {
	t.Parallel()
	for _, zero := range []impl.Form{formOf(node(nil, nil)), formOf(node(ints(), ints())), formOf(node(nil, ints())), formOf(node(ints(), nil))} {
		wantThermo(t, "0", zero, mast(impl.Dyadic{}))
		wantThermo(t, "1", formOf(zero.Nodes[0], node(ints(0), ints())), mast(dyadic(1, 0)))
		wantThermo(t, "-1", formOf(zero.Nodes[0], node(ints(), ints(0))), mast(dyadic(-1, 0)))
		star := formOf(zero.Nodes[0], node(ints(0), ints(0)))
		wantThermo(t, "*", star, cold(impl.Dyadic{}))
		wantThermo(t, "{*|}", formOf(zero.Nodes[0], star.Nodes[1], node(ints(1), ints())), mast(impl.Dyadic{}))
		hot := formOf(zero.Nodes[0], node(ints(0), ints()), node(ints(1), ints(0)))
		wantThermo(t, "{1|0}", hot, switchThermo(t, dyadic(1, 0), impl.Dyadic{}))
		wantHottest(t, "0, * and {1|0}", []impl.Form{zero, star, hot}, 2)
	}
	for _, none := range []impl.Form{{}, {Nodes: []impl.Node{}}, {Nodes: make([]impl.Node, 0, 3)}} {
		wantNoThermo(t, "no nodes", none)
	}
}

// resultsOfThermo has what each function of the chapter returns for f as one text, and the thermograph.
func resultsOfThermo(f impl.Form, l ...impl.Dyadic) (string, impl.Thermo) {
	thermo, ok := impl.ThermoOf(f)
	temp, fine := impl.TempOf(f)
	mean, good := impl.MeanOf(f)
	first, is := impl.HottestOf([]impl.Form{f, f})
	all := []any{thermo.Left, thermo.Right, thermo.Temp, thermo.Mean, ok, temp, fine, mean, good, first, is, impl.GoodWall(thermo.Left), impl.GoodWall(thermo.Right)}
	for _, d := range l {
		a, b, ok := impl.CoolStops(f, d)
		c, fine := impl.WallAt(thermo.Left, d)
		e, good := impl.WallAt(thermo.Right, d)
		all = append(all, a, b, ok, c, fine, e, good)
	}
	return fmt.Sprint(all...), thermo
}

func wantResultsOfThermo(t *testing.T, name string, rest string, f impl.Form, l ...impl.Dyadic) {
	t.Helper()
	if plain, _ := resultsOfThermo(copied(f), l...); rest != plain {
		t.Errorf("the results for %s are %s, want %s", name, rest, plain)
	}
}

func gamesOfThermo(t *testing.T) []impl.Form {
	t.Helper()
	f, _, _ := wide(t, 23, mostOptions)
	return append(append(hotGames(t), f, negated(t, f), invalidNumbers(t)["1/2^17"], spelled(t, "{1/65536|0}"), tallThreats(t)[20]), longest()...)
}

func TestP30ThermographsModifyNoArgument(t *testing.T) {
	t.Parallel()
	l := numbers(t, "0 1 1/2")
	for i, want := range gamesOfThermo(t) {
		f := withSpare(want)
		rest, _ := resultsOfThermo(f, l...)
		wantResultsOfThermo(t, fmt.Sprint("game ", i, " with spare elements"), rest, want, l...)
		wantSpare(t, "a function of thermographs", f, want)
	}
	games := gamesOfThermo(t)[:24]
	list := make([]impl.Form, 0, 30)
	for _, f := range games {
		list = append(list, withSpare(f))
	}
	wantList := append(slices.Clone(list), impl.Form{}, impl.Form{})
	if _, ok := impl.HottestOf(list); !ok {
		t.Error("HottestOf fails")
	}
	for i, f := range games {
		wantSpare(t, "HottestOf", list[i], f)
	}
	for i, f := range list[:26] {
		if !sameNodes(f, wantList[i]) {
			t.Error("HottestOf modified element", i)
		}
	}
}

func TestP30WallsAreNotModified(t *testing.T) {
	t.Parallel()
	bad := impl.Point{At: dyadic(-7, 99), Val: dyadic(2, 2)}
	for _, s := range strings.Split("0:0|0:4 3/2:5/2|0:2 1:2 3/2:5/2|0:0 1:0|1:1|0:0 1:2|0:0 1:1 2:2", "|") {
		w := wallFrom(t, s)
		spare := append(slices.Clone(w), bad, bad)[:len(w)]
		if impl.GoodWall(spare) != impl.GoodWall(w) {
			t.Error("GoodWall reads behind the end of", s)
		}
		for _, d := range numbers(t, "0 1 1/2 7") {
			a, ok := impl.WallAt(spare, d)
			b, fine := impl.WallAt(w, d)
			if a != b || ok != fine {
				t.Error("WallAt reads behind the end of", s)
			}
		}
		if !slices.Equal(spare[:len(w)+2], append(slices.Clone(w), bad, bad)) {
			t.Error("a wall was modified:", spare[:len(w)+2])
		}
	}
}

func TestP30ThermographsShareNoMemory(t *testing.T) {
	t.Parallel()
	l := numbers(t, "0 1 1/2")
	bad := impl.Point{At: dyadic(-7, 99), Val: dyadic(2, 2)}
	for i, want := range gamesOfThermo(t) {
		name := fmt.Sprint("game ", i)
		f := copied(want)
		rest, thermo := resultsOfThermo(f, l...)
		spoil(f)
		wantResultsOfThermo(t, name+" after it was changed", rest, want, l...)
		f = copied(want)
		kept, _ := impl.ThermoOf(f)
		if !sameThermo(kept, thermo) {
			t.Errorf("the thermograph of %s was changed with the argument", name)
		}
		right := slices.Clone(thermo.Right)
		for k := range thermo.Left {
			thermo.Left[k] = bad
		}
		_ = append(append(thermo.Left, bad), bad)
		if !slices.Equal(thermo.Right, right) {
			t.Errorf("the walls of %s share memory", name)
		}
		for k := range thermo.Right {
			thermo.Right[k] = bad
		}
		_ = append(append(thermo.Right, bad), bad)
		wantForm(t, name+" after its walls were changed", f, true, want)
		rest, _ = resultsOfThermo(f, l...)
		wantResultsOfThermo(t, name+" once more", rest, want, l...)
		again, _ := impl.ThermoOf(f)
		if !sameThermo(kept, again) {
			t.Errorf("the thermograph of %s was changed with another", name)
		}
	}
}

func TestP30ThermographsReturnForAll(t *testing.T) {
	t.Parallel()
	var strange []impl.Dyadic
	for _, top := range append(extremeInts(), 0, 1, -1, 2, 119, -120, 1000000, 1000001) {
		for _, pow := range append(extremeInts(), 0, 1, -1, 16, 17, 63, 64) {
			strange = append(strange, dyadic(top, pow))
		}
	}
	for i, f := range strangeForms() {
		func() {
			defer noPanic(t, fmt.Sprint(f))
			resultsOfThermo(f, strange[i%len(strange)], strange[(i*5+2)%len(strange)])
			impl.HottestOf([]impl.Form{nimber(1), f, {}})
		}()
	}
	hot := short(t, "{1|-1}")
	for i, d := range strange {
		func() {
			defer noPanic(t, fmt.Sprint(d))
			resultsOfThermo(nimber(1), d)
			resultsOfThermo(hot, d)
			resultsOfThermo(impl.Form{}, d)
			for k, e := range strange {
				for _, w := range [][]impl.Point{{{At: d, Val: e}}, {{}, {At: d, Val: e}}, {{Val: d}, {At: e, Val: d}}, {{}, {At: dyadic(1, 0), Val: dyadic(1, 0)}, {At: d, Val: e}}} {
					impl.GoodWall(w)
					impl.WallAt(w, strange[(i+k)%len(strange)])
				}
			}
		}()
	}
}

func TestP30ThermographsOfLargestGames(t *testing.T) {
	t.Parallel()
	forms := append(longest(), ladderOf(mostNodes-1), wideSmall(t, mostUps), tallThreats(t)[mostPoints])
	for seed := range 20 {
		forms = append(forms, tangleOf(mostNodes, mostOptions+1, seed+1), tangleOf(mostNodes, 2+seed, seed+1))
		for _, integers := range ints(60, 90, 118) {
			forms = append(forms, tallOf(integers, 1+seed, seed+1))
		}
	}
	inTime(t, "the thermographs of the largest games", func() {
		for i, f := range forms {
			if !impl.GoodForm(f) {
				t.Error("large game", i, "is invalid")
			}
			resultsOfThermo(f, dyadic(119, 0))
		}
		impl.HottestOf(slices.Repeat(forms[len(forms)-1:], 24))
	})
}

func TestP30ThermographsKeepNoState(t *testing.T) {
	t.Parallel()
	for range 2 {
		wantThermo(t, "{4|{2|0}}", spelled(t, "{4|{2|0}}"), thermoFrom(t, "3/2 5/2|0:4 3/2:5/2|0:2 1:2 3/2:5/2"))
		wantNoThermo(t, "no game", impl.Form{})
		wantThermo(t, "{1|1}", short(t, "{1|1}"), cold(dyadic(1, 0)))
		wantNoThermo(t, "{1/65536|0}", spelled(t, "{1/65536|0}"))
		wantHottest(t, "* and {4|-4}", []impl.Form{nimber(1), short4()}, 1)
		wantNoHottest(t, "nothing", nil)
		wantHottest(t, "{4|-4} and *", []impl.Form{short4(), nimber(1)}, 0)
	}
}
