package tests

import (
	"fmt"
	"math"
	"math/big"
	"strconv"
	"strings"
	"testing"

	"loop.example/g00868/impl"
)

func dyadic(top int, pow int) impl.Dyadic {
	return impl.Dyadic{Top: top, Pow: pow}
}

// ratOf computes with math/big, so that an overflow or a wrong shift in the package shows.
func ratOf(top int, pow int) *big.Rat {
	below := new(big.Int).Lsh(big.NewInt(1), uint(pow))
	return new(big.Rat).SetFrac(big.NewInt(int64(top)), below)
}

func valueOf(d impl.Dyadic) *big.Rat {
	return ratOf(d.Top, d.Pow)
}

// dyadicOf relies on big.Rat being kept in lowest terms.
func dyadicOf(r *big.Rat) (impl.Dyadic, bool) {
	if !r.Num().IsInt64() || r.Num().Int64() < -1000000 || r.Num().Int64() > 1000000 {
		return impl.Dyadic{}, false
	}
	for pow := range 17 {
		if r.Denom().Cmp(big.NewInt(1<<pow)) == 0 {
			return dyadic(int(r.Num().Int64()), pow), true
		}
	}
	return impl.Dyadic{}, false
}

func wantDyadic(t *testing.T, name string, got impl.Dyadic, ok bool, want impl.Dyadic) {
	t.Helper()
	if got != want || !ok {
		t.Errorf("%s = %v, %v, want %v, true", name, got, ok, want)
	}
}

func wantNoDyadic(t *testing.T, name string, got impl.Dyadic, ok bool) {
	t.Helper()
	if got != (impl.Dyadic{}) || ok {
		t.Errorf("%s = %v, %v, want the zero Dyadic and false", name, got, ok)
	}
}

func wantValue(t *testing.T, name string, got impl.Dyadic, ok bool, value *big.Rat) {
	t.Helper()
	want, valid := dyadicOf(value)
	if got != want || ok != valid {
		t.Errorf("%s = %v, %v, want %v, %v", name, got, ok, want, valid)
	}
}

func wantNoInt(t *testing.T, name string, got int, ok bool) {
	t.Helper()
	if got != 0 || ok {
		t.Errorf("%s = %d, %v, want 0, false", name, got, ok)
	}
}

func extremeInts() []int {
	return []int{math.MinInt, math.MinInt + 1, math.MinInt32, math.MaxInt32, math.MaxInt - 1, math.MaxInt}
}

func smallDyadics(size int, finest int) []impl.Dyadic {
	var all []impl.Dyadic
	for pow := range finest + 1 {
		for top := -size << pow; top <= size<<pow; top++ {
			if pow == 0 || top%2 != 0 {
				all = append(all, dyadic(top, pow))
			}
		}
	}
	return all
}

func mixedDyadics() []impl.Dyadic {
	var all []impl.Dyadic
	tops := []int{0, 1, 2, 3, 5, 6, 7, 12, 127, 128, 65535, 65536, 65537, 131071, 131072, 131073, 524288, 999998, 999999, 1000000}
	for _, pow := range []int{0, 1, 2, 3, 7, 15, 16} {
		for _, top := range tops {
			if pow == 0 || top%2 != 0 {
				all = append(all, dyadic(top, pow), dyadic(-top, pow))
			}
		}
	}
	return all
}

func invalidDyadics() []impl.Dyadic {
	all := []impl.Dyadic{
		dyadic(1000001, 0), dyadic(-1000001, 0), dyadic(1000001, 1), dyadic(-1000001, 16), dyadic(1000003, 3),
		dyadic(0, -1), dyadic(1, -1), dyadic(-1, -1), dyadic(4, -1), dyadic(0, 17), dyadic(1, 17), dyadic(-1, 17),
		dyadic(1, 63), dyadic(1, 64), dyadic(1, 65), dyadic(-1, -64),
		dyadic(2, 1), dyadic(-2, 1), dyadic(6, 16), dyadic(-65536, 16), dyadic(1000000, 1), dyadic(-1000000, 16),
		dyadic(0, 1), dyadic(0, 2), dyadic(0, 16),
	}
	for _, n := range extremeInts() {
		all = append(all, dyadic(n, 0), dyadic(n, 1), dyadic(0, n), dyadic(1, n), dyadic(-3, n), dyadic(n, n))
	}
	return all
}

func TestP2Limits(t *testing.T) {
	if impl.MaxPow != 16 || impl.MaxTop != 1000000 {
		t.Error("limits", impl.MaxPow, impl.MaxTop)
	}
}

func TestP2GoodNumbers(t *testing.T) {
	good := []impl.Dyadic{
		dyadic(0, 0), dyadic(1, 0), dyadic(-1, 0), dyadic(2, 0), dyadic(-2, 0), dyadic(1000000, 0), dyadic(-1000000, 0),
		dyadic(1, 1), dyadic(-1, 1), dyadic(3, 1), dyadic(-3, 1), dyadic(1, 16), dyadic(-1, 16), dyadic(999999, 16), dyadic(-999999, 16), dyadic(999999, 1),
	}
	for _, d := range append(append(good, smallDyadics(3, 5)...), mixedDyadics()...) {
		if !impl.GoodDyadic(d) {
			t.Errorf("GoodDyadic(%v) is false", d)
		}
	}
	for _, d := range invalidDyadics() {
		if impl.GoodDyadic(d) {
			t.Errorf("GoodDyadic(%v) is true", d)
		}
	}
}

func TestP2EveryNumberHasOneRepresentation(t *testing.T) {
	seen := map[string]impl.Dyadic{}
	for top := -300; top <= 300; top++ {
		for pow := -1; pow <= 18; pow++ {
			d := dyadic(top, pow)
			if !impl.GoodDyadic(d) {
				continue
			}
			value := valueOf(d).String()
			if other, twice := seen[value]; twice {
				t.Errorf("%v and %v are the same number", d, other)
			}
			seen[value] = d
		}
	}
	for top := -300; top <= 300; top++ {
		for pow := range 17 {
			want, found := seen[ratOf(top, pow).String()]
			if got, ok := impl.MakeDyadic(top, pow); !found || !ok || got != want {
				t.Errorf("MakeDyadic(%d, %d) = %v, %v, want %v, true", top, pow, got, ok, want)
			}
		}
	}
}

func TestP2Make(t *testing.T) {
	cases := []struct {
		top, pow int
		want     impl.Dyadic
	}{
		{12, 3, dyadic(3, 1)}, {-12, 3, dyadic(-3, 1)}, {0, 0, dyadic(0, 0)}, {0, 1, dyadic(0, 0)}, {0, 16, dyadic(0, 0)},
		{7, 0, dyadic(7, 0)}, {-7, 0, dyadic(-7, 0)}, {8, 0, dyadic(8, 0)}, {8, 3, dyadic(1, 0)}, {-8, 3, dyadic(-1, 0)}, {8, 2, dyadic(2, 0)},
		{8, 4, dyadic(1, 1)}, {-8, 4, dyadic(-1, 1)}, {1, 16, dyadic(1, 16)}, {-1, 16, dyadic(-1, 16)}, {65536, 16, dyadic(1, 0)}, {-65536, 16, dyadic(-1, 0)},
		{1000000, 0, dyadic(1000000, 0)}, {-1000000, 0, dyadic(-1000000, 0)}, {1000000, 16, dyadic(15625, 10)}, {-1000000, 16, dyadic(-15625, 10)},
		{2000000, 1, dyadic(1000000, 0)}, {-2000000, 1, dyadic(-1000000, 0)}, {999999, 16, dyadic(999999, 16)},
		{15258 * 65536, 16, dyadic(15258, 0)}, {-15258 * 65536, 16, dyadic(-15258, 0)}, {999999 << 9, 9, dyadic(999999, 0)}, {999999 << 9, 16, dyadic(999999, 7)},
		{-999999 << 9, 12, dyadic(-999999, 3)}, {500000 << 10, 10, dyadic(500000, 0)}, {61035 << 14, 14, dyadic(61035, 0)},
	}
	for _, c := range cases {
		got, ok := impl.MakeDyadic(c.top, c.pow)
		wantDyadic(t, fmt.Sprintf("MakeDyadic(%d, %d)", c.top, c.pow), got, ok, c.want)
	}
}

func TestP2MakeInvalid(t *testing.T) {
	cases := [][2]int{
		{1, -1}, {0, -1}, {4, -2}, {1, 17}, {0, 17}, {2, 17}, {1 << 17, 17}, {1 << 20, 20}, {1000001, 0}, {-1000001, 0}, {1000001, 16}, {-1000001, 16}, {2000002, 1}, {2000000, 0},
		{1000000000, 0}, {-1000000000, 0}, {1000000000, 9}, {1000000000, 16}, {-1000000000, 16}, {1000000001, 0}, {-1000000001, 0}, {1000000001, 16}, {-1000000001, 16},
		// Only the limit of the top forbids these: reduced, they would be valid.
		{15259 * 65536, 16}, {-15259 * 65536, 16}, {1000000 << 16, 16}, {-1000000 << 16, 16}, {1 << 30, 16}, {-1 << 30, 16}, {1 << 32, 16}, {1 << 40, 16},
	}
	for _, n := range extremeInts() {
		for _, m := range append(extremeInts(), 0, 1, -1, 16, 1000000000) {
			cases = append(cases, [2]int{n, m}, [2]int{m, n})
		}
	}
	for _, c := range cases {
		got, ok := impl.MakeDyadic(c[0], c[1])
		wantNoDyadic(t, fmt.Sprintf("MakeDyadic(%d, %d)", c[0], c[1]), got, ok)
	}
}

func TestP2MakeKeepsTheValue(t *testing.T) {
	var tops []int
	for _, around := range []int{0, 1 << 16, 1000000, 2000000, 1 << 26, 999999 << 9, 15258 * 65536, 1000000000} {
		for n := around - 70; n <= around+70; n++ {
			tops = append(tops, n, -n)
		}
	}
	for _, top := range tops {
		for pow := range 17 {
			name := fmt.Sprintf("MakeDyadic(%d, %d)", top, pow)
			got, ok := impl.MakeDyadic(top, pow)
			if top < -1000000000 || top > 1000000000 {
				wantNoDyadic(t, name, got, ok)
			} else {
				wantValue(t, name, got, ok, ratOf(top, pow))
			}
		}
	}
}

func TestP2Add(t *testing.T) {
	cases := [][3]impl.Dyadic{
		{dyadic(1, 1), dyadic(1, 2), dyadic(3, 2)}, {dyadic(1, 1), dyadic(1, 1), dyadic(1, 0)}, {dyadic(1, 1), dyadic(-1, 1), dyadic(0, 0)}, {dyadic(-1, 1), dyadic(-1, 1), dyadic(-1, 0)},
		{dyadic(3, 2), dyadic(3, 2), dyadic(3, 1)}, {dyadic(-3, 2), dyadic(1, 2), dyadic(-1, 1)}, {dyadic(5, 0), dyadic(-7, 0), dyadic(-2, 0)}, {dyadic(1, 0), dyadic(-1, 16), dyadic(65535, 16)},
		{dyadic(-1, 0), dyadic(1, 16), dyadic(-65535, 16)}, {dyadic(-999999, 16), dyadic(999999, 16), dyadic(0, 0)}, {dyadic(999999, 16), dyadic(1, 16), dyadic(15625, 10)},
		{dyadic(999999, 1), dyadic(999999, 1), dyadic(999999, 0)}, {dyadic(-999999, 1), dyadic(-999999, 1), dyadic(-999999, 0)}, {dyadic(999999, 16), dyadic(999997, 16), dyadic(499999, 14)},
		{dyadic(999999, 0), dyadic(1, 0), dyadic(1000000, 0)}, {dyadic(-999999, 0), dyadic(-1, 0), dyadic(-1000000, 0)}, {dyadic(1000000, 0), dyadic(-1000000, 0), dyadic(0, 0)},
		{dyadic(15, 0), dyadic(16959, 16), dyadic(999999, 16)}, {dyadic(-15, 0), dyadic(-16959, 16), dyadic(-999999, 16)}, {dyadic(0, 0), dyadic(0, 0), dyadic(0, 0)},
		{dyadic(-16, 0), dyadic(48577, 16), dyadic(-999999, 16)}, {dyadic(500000, 0), dyadic(-999999, 1), dyadic(1, 1)},
	}
	for _, c := range cases {
		x, ok := impl.AddDyadic(c[0], c[1])
		wantDyadic(t, fmt.Sprintf("AddDyadic(%v, %v)", c[0], c[1]), x, ok, c[2])
		x, ok = impl.AddDyadic(c[1], c[0])
		wantDyadic(t, fmt.Sprintf("AddDyadic(%v, %v)", c[1], c[0]), x, ok, c[2])
	}
}

func TestP2AddInvalid(t *testing.T) {
	leaving := [][2]impl.Dyadic{
		{dyadic(1000000, 0), dyadic(1, 0)}, {dyadic(-1000000, 0), dyadic(-1, 0)}, {dyadic(1000000, 0), dyadic(1000000, 0)}, {dyadic(1000000, 0), dyadic(1, 16)}, {dyadic(1000000, 0), dyadic(-1, 1)},
		{dyadic(-1000000, 0), dyadic(1, 1)}, {dyadic(500000, 0), dyadic(1, 1)}, {dyadic(15, 0), dyadic(16961, 16)}, {dyadic(-15, 0), dyadic(-16961, 16)}, {dyadic(999999, 16), dyadic(1, 15)},
		{dyadic(-1000000, 0), dyadic(-999999, 16)},
	}
	for _, c := range leaving {
		x, ok := impl.AddDyadic(c[0], c[1])
		wantNoDyadic(t, fmt.Sprintf("AddDyadic(%v, %v)", c[0], c[1]), x, ok)
		x, ok = impl.AddDyadic(c[1], c[0])
		wantNoDyadic(t, fmt.Sprintf("AddDyadic(%v, %v)", c[1], c[0]), x, ok)
	}
}

func TestP2InvalidNumbers(t *testing.T) {
	for _, bad := range invalidDyadics() {
		name := fmt.Sprintf("(%v)", bad)
		x, ok := impl.NegDyadic(bad)
		wantNoDyadic(t, "NegDyadic"+name, x, ok)
		x, ok = impl.HalfOf(bad)
		wantNoDyadic(t, "HalfOf"+name, x, ok)
		n, ok := impl.BornOfDyadic(bad)
		wantNoInt(t, "BornOfDyadic"+name, n, ok)
		s, ok := impl.DyadicText(bad)
		wantNoText(t, "DyadicText"+name, s, ok)
		for _, d := range append(invalidDyadics(), dyadic(0, 0), dyadic(1, 0), dyadic(-3, 2), dyadic(1000000, 0), dyadic(-1000000, 0), dyadic(-1, 16)) {
			wantNothingOfPair(t, bad, d)
			wantNothingOfPair(t, d, bad)
		}
	}
}

func wantNothingOfPair(t *testing.T, a impl.Dyadic, b impl.Dyadic) {
	t.Helper()
	name := fmt.Sprintf("(%v, %v)", a, b)
	x, ok := impl.AddDyadic(a, b)
	wantNoDyadic(t, "AddDyadic"+name, x, ok)
	x, ok = impl.SimplestBetween(a, b)
	wantNoDyadic(t, "SimplestBetween"+name, x, ok)
	n, ok := impl.CompareDyadic(a, b)
	wantNoInt(t, "CompareDyadic"+name, n, ok)
}

func TestP2PairsAgreeWithTheirValues(t *testing.T) {
	for _, all := range [][]impl.Dyadic{smallDyadics(2, 4), mixedDyadics()} {
		for _, a := range all {
			for _, b := range all {
				x, ok := impl.AddDyadic(a, b)
				wantValue(t, fmt.Sprintf("AddDyadic(%v, %v)", a, b), x, ok, new(big.Rat).Add(valueOf(a), valueOf(b)))
				if n, ok := impl.CompareDyadic(a, b); !ok || n != valueOf(a).Cmp(valueOf(b)) {
					t.Errorf("CompareDyadic(%v, %v) = %d, %v", a, b, n, ok)
				}
			}
		}
	}
}

func TestP2Compare(t *testing.T) {
	ascending := []impl.Dyadic{
		dyadic(-1000000, 0), dyadic(-999999, 0), dyadic(-999999, 1), dyadic(-2, 0), dyadic(-3, 1), dyadic(-65537, 16), dyadic(-1, 0), dyadic(-65535, 16), dyadic(-1, 1), dyadic(-3, 3), dyadic(-1, 2), dyadic(-1, 16),
		dyadic(0, 0), dyadic(1, 16), dyadic(1, 2), dyadic(3, 3), dyadic(1, 1), dyadic(65535, 16), dyadic(1, 0), dyadic(65537, 16), dyadic(3, 1), dyadic(2, 0), dyadic(999999, 1), dyadic(999999, 0), dyadic(1000000, 0),
	}
	for i, a := range ascending {
		for k, b := range ascending {
			want := 0
			if i < k {
				want = -1
			} else if i > k {
				want = 1
			}
			if n, ok := impl.CompareDyadic(a, b); !ok || n != want {
				t.Errorf("CompareDyadic(%v, %v) = %d, %v, want %d, true", a, b, n, ok, want)
			}
		}
	}
}

func TestP2NegAndHalf(t *testing.T) {
	for _, d := range append(smallDyadics(4, 6), mixedDyadics()...) {
		x, ok := impl.NegDyadic(d)
		wantValue(t, fmt.Sprintf("NegDyadic(%v)", d), x, ok, new(big.Rat).Neg(valueOf(d)))
		x, ok = impl.HalfOf(d)
		wantValue(t, fmt.Sprintf("HalfOf(%v)", d), x, ok, new(big.Rat).Mul(valueOf(d), big.NewRat(1, 2)))
	}
	neg := [][2]impl.Dyadic{{dyadic(0, 0), dyadic(0, 0)}, {dyadic(1000000, 0), dyadic(-1000000, 0)}, {dyadic(-1000000, 0), dyadic(1000000, 0)}, {dyadic(-3, 2), dyadic(3, 2)}, {dyadic(999999, 16), dyadic(-999999, 16)}}
	for _, c := range neg {
		x, ok := impl.NegDyadic(c[0])
		wantDyadic(t, fmt.Sprintf("NegDyadic(%v)", c[0]), x, ok, c[1])
	}
	half := [][2]impl.Dyadic{
		{dyadic(0, 0), dyadic(0, 0)}, {dyadic(3, 0), dyadic(3, 1)}, {dyadic(-3, 0), dyadic(-3, 1)}, {dyadic(6, 0), dyadic(3, 0)}, {dyadic(-6, 0), dyadic(-3, 0)}, {dyadic(-1, 0), dyadic(-1, 1)},
		{dyadic(1, 15), dyadic(1, 16)}, {dyadic(-999999, 15), dyadic(-999999, 16)}, {dyadic(1000000, 0), dyadic(500000, 0)}, {dyadic(-1000000, 0), dyadic(-500000, 0)}, {dyadic(-3, 2), dyadic(-3, 3)},
	}
	for _, c := range half {
		x, ok := impl.HalfOf(c[0])
		wantDyadic(t, fmt.Sprintf("HalfOf(%v)", c[0]), x, ok, c[1])
	}
	for _, d := range []impl.Dyadic{dyadic(1, 16), dyadic(-1, 16), dyadic(999999, 16), dyadic(-999999, 16)} {
		x, ok := impl.HalfOf(d)
		wantNoDyadic(t, fmt.Sprintf("HalfOf(%v)", d), x, ok)
	}
}

func TestP2Simplest(t *testing.T) {
	cases := [][3]impl.Dyadic{
		{dyadic(1, 2), dyadic(3, 3), dyadic(5, 4)}, {dyadic(-3, 3), dyadic(-1, 2), dyadic(-5, 4)}, {dyadic(0, 0), dyadic(1, 0), dyadic(1, 1)}, {dyadic(-1, 0), dyadic(0, 0), dyadic(-1, 1)},
		{dyadic(-1, 0), dyadic(1, 0), dyadic(0, 0)}, {dyadic(-1, 16), dyadic(1, 16), dyadic(0, 0)}, {dyadic(-1000000, 0), dyadic(1, 16), dyadic(0, 0)}, {dyadic(-1000000, 0), dyadic(1000000, 0), dyadic(0, 0)},
		{dyadic(0, 0), dyadic(5, 0), dyadic(1, 0)}, {dyadic(-5, 0), dyadic(0, 0), dyadic(-1, 0)}, {dyadic(0, 0), dyadic(1000000, 0), dyadic(1, 0)}, {dyadic(-1000000, 0), dyadic(0, 0), dyadic(-1, 0)},
		{dyadic(1, 0), dyadic(5, 0), dyadic(2, 0)}, {dyadic(-5, 0), dyadic(-1, 0), dyadic(-2, 0)}, {dyadic(5, 1), dyadic(9, 1), dyadic(3, 0)}, {dyadic(-9, 1), dyadic(-5, 1), dyadic(-3, 0)},
		{dyadic(1, 1), dyadic(5, 1), dyadic(1, 0)}, {dyadic(-5, 1), dyadic(-1, 1), dyadic(-1, 0)}, {dyadic(1, 1), dyadic(1, 0), dyadic(3, 2)}, {dyadic(-1, 0), dyadic(-1, 1), dyadic(-3, 2)},
		{dyadic(-3, 2), dyadic(-1, 1), dyadic(-5, 3)}, {dyadic(1, 3), dyadic(7, 3), dyadic(1, 1)}, {dyadic(-7, 3), dyadic(-1, 3), dyadic(-1, 1)}, {dyadic(999998, 0), dyadic(1000000, 0), dyadic(999999, 0)},
		{dyadic(0, 0), dyadic(1, 15), dyadic(1, 16)}, {dyadic(-1, 15), dyadic(0, 0), dyadic(-1, 16)}, {dyadic(0, 0), dyadic(3, 16), dyadic(1, 15)},
		{dyadic(-1000000, 0), dyadic(-999998, 0), dyadic(-999999, 0)}, {dyadic(499999, 0), dyadic(500000, 0), dyadic(999999, 1)}, {dyadic(-500000, 0), dyadic(-499999, 0), dyadic(-999999, 1)},
		{dyadic(1, 16), dyadic(1, 0), dyadic(1, 1)}, {dyadic(1, 16), dyadic(2, 0), dyadic(1, 0)}, {dyadic(-2, 0), dyadic(-1, 16), dyadic(-1, 0)}, {dyadic(999997, 16), dyadic(999999, 16), dyadic(499999, 15)},
		{dyadic(999999, 1), dyadic(1000000, 0), dyadic(500000, 0)}, {dyadic(-1000000, 0), dyadic(-999999, 1), dyadic(-500000, 0)},
	}
	for _, c := range cases {
		x, ok := impl.SimplestBetween(c[0], c[1])
		name := fmt.Sprintf("SimplestBetween(%v, %v)", c[0], c[1])
		wantDyadic(t, name, x, ok, c[2])
		x, ok = impl.SimplestBetween(c[1], c[0])
		wantNoDyadic(t, "in the wrong order, "+name, x, ok)
	}
}

func TestP2NothingBetween(t *testing.T) {
	cases := [][2]impl.Dyadic{
		{dyadic(0, 0), dyadic(0, 0)}, {dyadic(1, 0), dyadic(1, 0)}, {dyadic(-1, 1), dyadic(-1, 1)}, {dyadic(1, 0), dyadic(0, 0)}, {dyadic(0, 0), dyadic(-1, 0)}, {dyadic(1, 0), dyadic(-1, 0)}, {dyadic(1000000, 0), dyadic(1000000, 0)},
		{dyadic(0, 0), dyadic(1, 16)}, {dyadic(-1, 16), dyadic(0, 0)}, {dyadic(1, 16), dyadic(1, 15)}, {dyadic(-1, 15), dyadic(-1, 16)}, {dyadic(65535, 16), dyadic(1, 0)}, {dyadic(-1, 0), dyadic(-65535, 16)},
		{dyadic(499999, 15), dyadic(999999, 16)}, {dyadic(-999999, 16), dyadic(-499999, 15)}, {dyadic(1, 0), dyadic(65537, 16)},
		// There is a number with a Pow of at most MaxPow between these, but its Top is beyond MaxTop.
		{dyadic(999999, 0), dyadic(1000000, 0)}, {dyadic(-1000000, 0), dyadic(-999999, 0)}, {dyadic(500000, 0), dyadic(500001, 0)}, {dyadic(-500001, 0), dyadic(-500000, 0)}, {dyadic(499999, 0), dyadic(999999, 1)},
	}
	for _, c := range cases {
		x, ok := impl.SimplestBetween(c[0], c[1])
		wantNoDyadic(t, fmt.Sprintf("SimplestBetween(%v, %v)", c[0], c[1]), x, ok)
	}
}

// plainSimplest goes by the document's words: it takes the integers outward from 0, then the fractions by their Pow.
func plainSimplest(a impl.Dyadic, b impl.Dyadic) (impl.Dyadic, bool) {
	low, high := valueOf(a), valueOf(b)
	if low.Cmp(high) >= 0 {
		return impl.Dyadic{}, false
	}
	within := func(r *big.Rat) bool { return low.Cmp(r) < 0 && r.Cmp(high) < 0 }
	if within(new(big.Rat)) {
		return impl.Dyadic{}, true
	}
	for pow := range 17 {
		floor := new(big.Int).Lsh(low.Num(), uint(pow))
		floor.Div(floor, low.Denom())
		ceiling := new(big.Int).Lsh(high.Num(), uint(pow))
		ceiling.Sub(ceiling.Add(ceiling, high.Denom()), big.NewInt(1)).Div(ceiling, high.Denom())
		tops := []int{int(floor.Int64()) + 1, int(ceiling.Int64()) - 1}
		if low.Sign() < 0 {
			tops[0], tops[1] = tops[1], tops[0]
		}
		for _, top := range tops {
			if r := ratOf(top, pow); within(r) {
				return dyadicOf(r)
			}
		}
	}
	return impl.Dyadic{}, false
}

func TestP2SimplestAgreesWithTheDocument(t *testing.T) {
	for _, all := range [][]impl.Dyadic{smallDyadics(3, 4), mixedDyadics()} {
		for _, a := range all {
			for _, b := range all {
				x, ok := impl.SimplestBetween(a, b)
				want, valid := plainSimplest(a, b)
				if x != want || ok != valid {
					t.Errorf("SimplestBetween(%v, %v) = %v, %v, want %v, %v", a, b, x, ok, want, valid)
				}
			}
		}
	}
}

func TestP2SimplestIsBornFirst(t *testing.T) {
	all := smallDyadics(3, 4)
	for _, a := range all {
		for _, b := range all {
			x, ok := impl.SimplestBetween(a, b)
			if !ok {
				continue
			}
			earliest, fine := impl.BornOfDyadic(x)
			if !fine || valueOf(a).Cmp(valueOf(x)) >= 0 || valueOf(x).Cmp(valueOf(b)) >= 0 {
				t.Fatalf("SimplestBetween(%v, %v) = %v", a, b, x)
			}
			for _, y := range all {
				if y == x || valueOf(a).Cmp(valueOf(y)) >= 0 || valueOf(y).Cmp(valueOf(b)) >= 0 {
					continue
				}
				if n, ok := impl.BornOfDyadic(y); !ok || n <= earliest {
					t.Errorf("between %v and %v, %v is born on day %d and %v on day %d", a, b, x, earliest, y, n)
				}
			}
		}
	}
}

func TestP2Born(t *testing.T) {
	cases := []struct {
		d impl.Dyadic
		n int
	}{
		{dyadic(0, 0), 0}, {dyadic(1, 0), 1}, {dyadic(-1, 0), 1}, {dyadic(-5, 0), 5}, {dyadic(1000000, 0), 1000000}, {dyadic(-1000000, 0), 1000000}, {dyadic(1, 1), 2}, {dyadic(-1, 1), 2}, {dyadic(3, 2), 3}, {dyadic(-3, 2), 3},
		{dyadic(5, 1), 4}, {dyadic(-5, 1), 4}, {dyadic(-3, 1), 3}, {dyadic(-7, 2), 4}, {dyadic(7, 2), 4}, {dyadic(1, 16), 17}, {dyadic(-1, 16), 17}, {dyadic(999999, 16), 32}, {dyadic(-999999, 16), 32},
		{dyadic(999999, 1), 500001}, {dyadic(-999999, 1), 500001}, {dyadic(-65537, 16), 18}, {dyadic(-65535, 16), 17},
	}
	for _, c := range cases {
		if n, ok := impl.BornOfDyadic(c.d); !ok || n != c.n {
			t.Errorf("BornOfDyadic(%v) = %d, %v, want %d, true", c.d, n, ok, c.n)
		}
	}
}

// A number is born on the day after the later one of two neighbours, as the simplest one between them.
func TestP2EachDayBringsTheNumbersBetween(t *testing.T) {
	line := []impl.Dyadic{dyadic(0, 0)}
	for day := range 8 {
		end := day + 1
		next := []impl.Dyadic{dyadic(-end, 0)}
		for i, d := range line {
			next = append(next, d)
			if i+1 < len(line) {
				x, ok := impl.SimplestBetween(d, line[i+1])
				if n, fine := impl.BornOfDyadic(x); !ok || !fine || n != end {
					t.Fatalf("between %v and %v is %v, born on day %d, want day %d", d, line[i+1], x, n, end)
				}
				next = append(next, x)
			}
		}
		line = append(next, dyadic(end, 0))
	}
}

func TestP2Text(t *testing.T) {
	known := map[string]impl.Dyadic{
		"0": dyadic(0, 0), "1": dyadic(1, 0), "-1": dyadic(-1, 0), "-5": dyadic(-5, 0), "10": dyadic(10, 0), "1/2": dyadic(1, 1), "-1/2": dyadic(-1, 1), "3/4": dyadic(3, 2), "-3/4": dyadic(-3, 2), "5/2": dyadic(5, 1),
		"1/1024": dyadic(1, 10), "1/65536": dyadic(1, 16), "-1/65536": dyadic(-1, 16), "999999/65536": dyadic(999999, 16), "-999999/2": dyadic(-999999, 1), "1000000": dyadic(1000000, 0), "-1000000": dyadic(-1000000, 0), "-999999": dyadic(-999999, 0),
	}
	for s, d := range known {
		got, ok := impl.DyadicText(d)
		if got != s || !ok {
			t.Errorf("DyadicText(%v) = %q, %v, want %q, true", d, got, ok, s)
		}
		x, ok := impl.ReadDyadic(s)
		wantDyadic(t, "ReadDyadic("+s+")", x, ok, d)
	}
}

func TestP2TextsRoundTrip(t *testing.T) {
	for _, d := range append(smallDyadics(20, 6), mixedDyadics()...) {
		want := strconv.Itoa(d.Top)
		if d.Pow > 0 {
			want += "/" + big.NewInt(0).Lsh(big.NewInt(1), uint(d.Pow)).String()
		}
		s, ok := impl.DyadicText(d)
		if s != want || !ok {
			t.Errorf("DyadicText(%v) = %q, %v, want %q, true", d, s, ok, want)
		}
		x, ok := impl.ReadDyadic(want)
		wantDyadic(t, "ReadDyadic("+want+")", x, ok, d)
	}
}

func TestP2NoNumbersToRead(t *testing.T) {
	bad := []string{
		"", "-", "/", "//", "2/4", "-2/4", "-0", "0/2", "-0/2", "0/1", "1/1", "-1/1", "2/1", "1/3", "1/0", "1/6", "01/2", "1/02", "00", "01", "-01", "+1", "+1/2", "1/+2", "1/-2", "-1/-2", "--1", "/2", "-/2", "1/", "-1/", "1/2/", "1/2/2", "1//2",
		"1000001", "-1000001", "1000001/2", "-1000001/2", "1000000/2", "1000000/65536", "1/131072", "3/131072", "1/32768/2", "1/65537", " 1", "1 ", "1 /2", "1/ 2", "1/2 ", "1/2\n", "1/2\x00", "0.5", "1,2", "1e1", "0x1", "1_0", "1/6_4", "x", "1/x", "½", "١", "\xff",
		"1/18446744073709551618", "18446744073709551617", "18446744073709551617/2", "9223372036854775807", "-9223372036854775808", "-9223372036854775808/2", "1/4294967296", "1/-9223372036854775808", "1/9223372036854775808",
		strings.Repeat("1", 100000), "1/" + strings.Repeat("2", 100000), strings.Repeat("/", 100000), strings.Repeat("0", 100000) + "1", "1/2" + strings.Repeat(" ", 5000),
	}
	for _, s := range bad {
		x, ok := impl.ReadDyadic(s)
		wantNoDyadic(t, fmt.Sprintf("ReadDyadic(%.40q)", s), x, ok)
	}
}

func TestP2ReadsOnlyWhatIsWritten(t *testing.T) {
	written := map[string]impl.Dyadic{}
	for _, d := range smallDyadics(9, 6) {
		s, _ := impl.DyadicText(d)
		written[s] = d
	}
	for top := -999; top <= 999; top++ {
		written[strconv.Itoa(top)] = dyadic(top, 0)
	}
	for _, s := range textsOf("-+/0124 ", 4) {
		x, ok := impl.ReadDyadic(s)
		if want, found := written[s]; found {
			wantDyadic(t, "ReadDyadic("+s+")", x, ok, want)
			continue
		}
		if back, fine := impl.DyadicText(x); ok && (!fine || back != s) {
			t.Errorf("ReadDyadic(%q) = %v, whose text is %q", s, x, back)
		} else if !ok {
			wantNoDyadic(t, "ReadDyadic("+s+")", x, ok)
		}
	}
}

func TestP30DyadicFunctionsReturnForAll(t *testing.T) {
	ints := append(extremeInts(), 0, 1, -1, 2, -2, 16, 17, 63, 64, -64, 1000000, 1000001, -1000001)
	var all []impl.Dyadic
	for _, top := range ints {
		for _, pow := range ints {
			all = append(all, dyadic(top, pow))
		}
	}
	for _, a := range all {
		func() {
			defer noPanic(t, fmt.Sprint(a))
			impl.GoodDyadic(a)
			impl.MakeDyadic(a.Top, a.Pow)
			impl.NegDyadic(a)
			impl.HalfOf(a)
			impl.BornOfDyadic(a)
			impl.DyadicText(a)
			for _, b := range all {
				impl.AddDyadic(a, b)
				impl.CompareDyadic(a, b)
				impl.SimplestBetween(a, b)
			}
		}()
	}
}

func TestP30DyadicFunctionsKeepNoState(t *testing.T) {
	for range 2 {
		x, ok := impl.SimplestBetween(dyadic(1, 2), dyadic(3, 3))
		wantDyadic(t, "SimplestBetween", x, ok, dyadic(5, 4))
		x, ok = impl.ReadDyadic("-1/2")
		wantDyadic(t, "ReadDyadic", x, ok, dyadic(-1, 1))
		x, ok = impl.AddDyadic(dyadic(2, 1), dyadic(1, 1))
		wantNoDyadic(t, "AddDyadic of an invalid number", x, ok)
		x, ok = impl.ReadDyadic("2/4")
		wantNoDyadic(t, "ReadDyadic", x, ok)
	}
}
