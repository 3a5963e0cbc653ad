package tests

import (
	"fmt"
	"regexp"
	"slices"
	"strings"
	"testing"

	"loop.example/g00868/impl"
)

const (
	mostName = 300
	mostOpen = 40
)

type nus struct {
	d    impl.Dyadic
	n    int
	star int
}

func (x nus) name() string {
	marked := func(mark string, n int) string {
		switch {
		case n <= 0:
			return ""
		case n == 1:
			return mark
		}
		return fmt.Sprint(mark, n)
	}
	number, _ := impl.DyadicText(x.d)
	if x.d == (impl.Dyadic{}) && (x.n != 0 || x.star != 0) {
		number = ""
	}
	return number + marked("^", x.n) + marked("v", -x.n) + marked("*", x.star)
}

// sum adds the parts by the functions of the chapters before.
func (x nus) sum() (impl.Form, bool) {
	number, ok := impl.NumberForm(x.d)
	ups, fine := impl.UpsForm(x.n, x.star)
	sum, both := impl.CanonSum([]impl.Form{number, ups})
	return sum, ok && fine && both
}

// A builder has canonical forms of sums without adding: a number that is added to a game that is none is added to its options.
type builder map[nus]impl.Form

func (b builder) build(t *testing.T, x nus) (impl.Form, bool) {
	t.Helper()
	if f, found := b[x]; found {
		return f, impl.GoodForm(f)
	}
	if x.n == 0 && x.star == 0 {
		return impl.NumberForm(x.d)
	}
	var options [2][]impl.Form
	left, right, _ := impl.OptionsOf(upsForm(t, x.n, x.star))
	for side, list := range [][]impl.Form{left, right} {
		for _, option := range list {
			n, star, ok := impl.UpsOf(option)
			if !ok {
				t.Fatal("an option of a sum of ups and a star is none")
			}
			f, _ := b.build(t, nus{x.d, n, star})
			options[side] = append(options[side], f)
		}
	}
	f, ok := impl.MakeForm(options[0], options[1])
	b[x] = f
	return f, ok
}

// A scribe names the canonical games of a gallery by the document's words, without forms and limits of games.
type scribe struct {
	*gallery
	names  map[int]string
	plains map[int]*plainGame
}

func newScribe() *scribe {
	return &scribe{gallery: newGallery(), names: map[int]string{}, plains: map[int]*plainGame{}}
}

// plain makes one game of each number, because plainCompare knows at once that a game is identical to itself.
func (s *scribe) plain(a int) *plainGame {
	if g, found := s.plains[a]; found {
		return g
	}
	var lists [2][]*plainGame
	for side, options := range s.games[a] {
		for _, option := range options {
			lists[side] = append(lists[side], s.plain(option))
		}
	}
	s.plains[a] = plainOf(lists[0], lists[1])
	return s.plains[a]
}

func (s *scribe) inOrder(options []int) []int {
	return slices.SortedFunc(slices.Values(options), func(a, b int) int { return plainCompare(s.plain(a), s.plain(b)) })
}

// nus takes away each number that is a part of a canonical game a.
func (s *scribe) nus(a int) (nus, bool) {
	if !s.fits(a) {
		return nus{}, false
	}
	for _, part := range s.parts(a) {
		d, is := s.values[part]
		if !is {
			continue
		}
		if rest, is := s.sums[s.canon(s.sum(a, s.negative(part)))]; is {
			x := nus{d, rest[0], rest[1]}
			if _, ok := x.sum(); ok {
				return x, true
			}
		}
	}
	return nus{}, false
}

// name stops at a length that no name may have.
func (s *scribe) name(a int) string {
	if name, found := s.names[a]; found {
		return name
	}
	var lists []string
	for _, options := range s.games[a] {
		var names []string
		for _, option := range s.inOrder(options) {
			names = append(names, s.name(option))
		}
		lists = append(lists, strings.Join(names, ","))
	}
	name := "{" + strings.Join(lists, "|") + "}"
	if high, low, is := s.ends(a); is && high == minus(low) {
		text, _ := impl.DyadicText(high)
		name = "~" + text
	}
	if x, is := s.nus(a); is {
		name = x.name()
	}
	s.names[a] = name[:min(len(name), mostName+9)]
	return s.names[a]
}

func openAtOnce(s string) int {
	open, most := 0, 0
	for _, c := range []byte(s) {
		switch c {
		case '(', '{':
			open++
		case ')', '}':
			open--
		}
		most = max(most, open)
	}
	return most
}

var (
	innermost  = regexp.MustCompile(`\([^(){}]*\)|\{[^(){}]*\}`)
	minusShape = regexp.MustCompile(`^-([^0-9]|$)`)
	timesShape = regexp.MustCompile(`^([1-9]|1[0-2])\.`)
	unitShape  = regexp.MustCompile(`^(<([0-9]+)>|~([0-9]+(/[0-9]+)?)|(-?[0-9]+(/[0-9]+)?)?(([v^])([1-9][0-9]*)?)?(\*([1-9][0-9]*)?)?)`)
)

// A reading replaces brackets from within by the numbers of their games.
type reading struct {
	games []impl.Form
}

func plainReading(s string) (impl.Form, bool) {
	if len(s) > mostName || strings.ContainsAny(s, "<>") || openAtOnce(s) > mostOpen {
		return impl.Form{}, false
	}
	var r reading
	for place := innermost.FindStringIndex(s); place != nil; place = innermost.FindStringIndex(s) {
		game, ok := r.brackets(s[place[0]:place[1]])
		if !ok {
			return impl.Form{}, false
		}
		s = fmt.Sprintf("%s<%d>%s", s[:place[0]], len(r.games), s[place[1]:])
		r.games = append(r.games, game)
	}
	f, ok := r.sum(s)
	if !ok {
		return impl.Form{}, false
	}
	return impl.CanonOf(f)
}

func (r *reading) brackets(s string) (impl.Form, bool) {
	inner := s[1 : len(s)-1]
	if s[0] == '(' {
		return r.sum(inner)
	}
	sides := strings.Split(inner, "|")
	if len(sides) != 2 {
		return impl.Form{}, false
	}
	var lists [2][]impl.Form
	for i, side := range sides {
		if side == "" {
			continue
		}
		for _, text := range strings.Split(side, ",") {
			f, ok := r.sum(text)
			if !ok {
				return impl.Form{}, false
			}
			lists[i] = append(lists[i], f)
		}
	}
	return impl.MakeForm(lists[0], lists[1])
}

func (r *reading) sum(s string) (impl.Form, bool) {
	value, rest, ok := r.term(s)
	for ok && rest != "" {
		sign := rest[0]
		var next impl.Form
		next, rest, ok = r.term(rest[1:])
		if !ok || sign != '+' && sign != '-' {
			return impl.Form{}, false
		}
		if sign == '-' {
			next, _ = impl.NegForm(next)
		}
		value, ok = impl.CanonSum([]impl.Form{value, next})
	}
	return value, ok
}

func (r *reading) term(s string) (impl.Form, string, bool) {
	if minusShape.MatchString(s) {
		f, rest, ok := r.term(s[1:])
		if !ok {
			return impl.Form{}, "", false
		}
		f, ok = impl.NegForm(f)
		return f, rest, ok
	}
	if times := timesShape.FindStringSubmatch(s); times != nil {
		f, rest, ok := r.term(s[len(times[0]):])
		if !ok {
			return impl.Form{}, "", false
		}
		n, _ := impl.ReadNum(times[1])
		f, ok = impl.CanonSum(slices.Repeat([]impl.Form{f}, n))
		return f, rest, ok
	}
	unit := unitShape.FindStringSubmatch(s)
	f, ok := r.unit(unit)
	return f, s[len(unit[0]):], ok
}

func (r *reading) unit(unit []string) (impl.Form, bool) {
	switch {
	case unit[0] == "":
		return impl.Form{}, false
	case unit[2] != "":
		n, _ := impl.ReadNum(unit[2])
		return r.games[n], true
	case unit[3] != "":
		d, ok := impl.ReadDyadic(unit[3])
		if !ok || d.Top <= 0 {
			return impl.Form{}, false
		}
		return impl.SwitchForm(d, minus(d))
	}
	d, ok := impl.ReadDyadic(unit[5] + map[bool]string{true: "0"}[unit[5] == ""])
	n, fine := countOf(unit[7], unit[9])
	star, good := countOf(unit[10], unit[11])
	if !ok || !fine || !good {
		return impl.Form{}, false
	}
	if unit[8] == "v" {
		n = -n
	}
	return nus{d, n, star}.sum()
}

func countOf(part string, digits string) (int, bool) {
	switch {
	case part == "":
		return 0, true
	case digits == "":
		return 1, true
	}
	return impl.ReadNum(digits)
}

// wantReading checks a text by the grammar, and returns whether it says a game.
func wantReading(t *testing.T, s string) bool {
	t.Helper()
	want, fine := plainReading(s)
	f, ok := impl.ReadGame(s)
	g, is := impl.ReadName(s)
	if !fine {
		wantNoForm(t, fmt.Sprintf("ReadGame(%.330q)", s), f, ok)
		wantNoForm(t, fmt.Sprintf("ReadName(%.330q)", s), g, is)
		return false
	}
	wantForm(t, fmt.Sprintf("ReadGame(%q)", s), f, ok, want)
	if name, _ := impl.NameOf(want); name == s {
		wantForm(t, fmt.Sprintf("ReadName(%q)", s), g, is, want)
	} else {
		wantNoForm(t, fmt.Sprintf("ReadName(%q)", s), g, is)
	}
	return true
}

func wantNothingSaid(t *testing.T, s string) {
	t.Helper()
	f, ok := impl.ReadGame(s)
	wantNoForm(t, fmt.Sprintf("ReadGame(%.330q)", s), f, ok)
	f, ok = impl.ReadName(s)
	wantNoForm(t, fmt.Sprintf("ReadName(%.330q)", s), f, ok)
	for _, other := range []string{s, "{0|*}"} {
		alike, ok := impl.SaysAlike(s, other)
		wantNoBool(t, fmt.Sprintf("SaysAlike(%.330q, %.330q)", s, other), alike, ok)
		alike, ok = impl.SaysAlike(other, s)
		wantNoBool(t, fmt.Sprintf("SaysAlike(%.330q, %.330q)", other, s), alike, ok)
	}
}

func said(t *testing.T, s string) impl.Form {
	t.Helper()
	f, ok := impl.ReadGame(s)
	if !ok {
		t.Fatalf("ReadGame(%q) fails", s)
	}
	return f
}

// wantSaid checks what a text says, and whether it is a name.
func wantSaid(t *testing.T, s string, name string) {
	t.Helper()
	f, ok := impl.ReadGame(s)
	if got, fine := impl.NameOf(f); !ok || got != name || !fine {
		t.Errorf("the name of ReadGame(%q), %v, is %q, %v, want %q, true", s, ok, got, fine, name)
	}
	g, is := impl.ReadName(s)
	if s == name {
		wantForm(t, fmt.Sprintf("ReadName(%q)", s), g, is, f)
	} else {
		wantNoForm(t, fmt.Sprintf("ReadName(%q)", s), g, is)
	}
	g, ok = impl.ReadName(name)
	wantForm(t, fmt.Sprintf("ReadName(%q)", name), g, ok, f)
	alike, ok := impl.SaysAlike(s, name)
	wantBool(t, fmt.Sprintf("SaysAlike(%q, %q)", s, name), alike, ok, true)
	wantReading(t, s)
}

// wantAllSaid reads lines of a text and its name, or a text alone that says nothing.
func wantAllSaid(t *testing.T, table string) {
	t.Helper()
	for _, line := range strings.Split(strings.TrimSpace(table), "\n") {
		switch words := strings.Fields(line); len(words) {
		case 1:
			wantNothingSaid(t, words[0])
			wantReading(t, words[0])
		case 2:
			wantSaid(t, words[0], words[1])
		default:
			t.Errorf("no line of a table: %q", line)
		}
	}
}

func wantName(t *testing.T, label string, f impl.Form, want string) {
	t.Helper()
	if name, ok := impl.NameOf(f); name != want || !ok {
		t.Errorf("NameOf %s = %q, %v, want %q, true", label, name, ok, want)
	}
}

func wantNoName(t *testing.T, label string, f impl.Form) {
	t.Helper()
	name, ok := impl.NameOf(f)
	wantNoText(t, "NameOf "+label, name, ok)
}

func wantNus(t *testing.T, label string, f impl.Form, want nus) {
	t.Helper()
	if d, n, star, ok := impl.NusOf(f); (nus{d, n, star}) != want || !ok {
		t.Errorf("NusOf %s = %v, %d, %d, %v, want %v, true", label, d, n, star, ok, want)
	}
}

func wantNoNus(t *testing.T, label string, f impl.Form) {
	t.Helper()
	if d, n, star, ok := impl.NusOf(f); (nus{d, n, star}) != (nus{}) || ok {
		t.Errorf("NusOf %s = %v, %d, %d, %v, want zero values and false", label, d, n, star, ok)
	}
}

func wantNoNusForm(t *testing.T, d impl.Dyadic, n int, star int) {
	t.Helper()
	f, ok := impl.NusForm(d, n, star)
	wantNoForm(t, fmt.Sprintf("NusForm(%v, %d, %d)", d, n, star), f, ok)
}

// wantNamed checks all functions with a game, and counts the kinds of names.
func (s *scribe) wantNamed(t *testing.T, label string, f impl.Form, counts map[string]int) string {
	t.Helper()
	a := s.canon(s.read(f))
	name := s.name(a)
	games := map[string]impl.Form{label: f}
	canon, ok := impl.CanonOf(f)
	s.want(t, "CanonOf "+label, canon, ok, a)
	if ok {
		games[label+" in canonical form"] = canon
	} else {
		counts["wide"]++
	}
	for kind, g := range games {
		if x, is := s.nus(a); is {
			wantNus(t, kind, g, x)
			counts["nus"]++
		} else {
			wantNoNus(t, kind, g)
			counts[name[:1]]++
		}
		if len(name) > mostName {
			wantNoName(t, kind, g)
			counts["long"]++
		} else {
			wantName(t, kind, g, name)
		}
	}
	switch {
	case len(name) > mostName:
	case !ok || openAtOnce(name) > mostOpen:
		wantNothingSaid(t, name)
	default:
		g, ok := impl.ReadName(name)
		wantForm(t, "ReadName of the name of "+label, g, ok, canon)
		wantReading(t, name)
	}
	return name
}

func TestP9Limits(t *testing.T) {
	t.Parallel()
	if impl.MaxName != mostName {
		t.Error("limit", impl.MaxName)
	}
}

func TestP9NamesOfKnownGames(t *testing.T) {
	t.Parallel()
	for game, name := range map[string]string{
		"0": "0", "1": "1", "-1": "-1", "2": "2", "-2": "-2", "{2|}": "3", "{0|1}": "1/2", "{-1|0}": "-1/2", "{1|2}": "3/2", "{{0|1}|1}": "3/4", "{-1|{-1|0}}": "-3/4",
		"*": "*", "^": "^", "v": "v", "{0,*|0,*}": "*2", "{0,*|0}": "^*", "{0|0,*}": "v*", "{0|^}": "^2*", "{v|0}": "v2*", "{0|{0,*|0}}": "^2", "{{0|0,*}|0}": "v2", "{0|{0,*|0,*}}": "^*3",
		"{1|1}": "1*", "{-1|-1}": "-1*", "{{0|1}|{0|1}}": "1/2*", "{1|{1|1}}": "1^", "{{1|1}|1}": "1v", "{1,{1|1}|1}": "1^*", "{1|1,{1|1}}": "1v*", "{{0|1}|{{0|1}|{0|1}}}": "1/2^", "{-1|{-1|-1}}": "-1^", "{1,{1|1}|1,{1|1}}": "1*2",
		"{1|-1}": "~1", "{2|-2}": "~2", "{{0|1}|{-1|0}}": "~1/2",
		"{1|0}": "{1|0}", "{0|-1}": "{0|-1}", "{2|-1}": "{2|-1}", "{1|-2}": "{1|-2}", "{2|1}": "{2|1}", "{-1|-2}": "{-1|-2}", "{1|*}": "{1|*}", "{*|-1}": "{*|-1}", "{1|{0|-1}}": "{1|{0|-1}}", "{{1|-1}|-1}": "{~1|-1}", "{1|{1|-1}}": "{1|~1}", "{{2|-2}|-2}": "{~2|-2}",
		"{2,{2|0}|-1}": "{2,{2|0}|-1}", "{^|-1}": "{^|-1}", "{1|v}": "{1|v}", "{0|{0|-1}}": "{0|{0|-1}}", "{{2|1}|{-1|-2}}": "{{2|1}|{-1|-2}}", "{{1|1}|-1}": "{1*|-1}", "{0,{1|-1}|-2}": "{0,~1|-2}", "{*,{1|1}|-2}": "{1*|-2}", "{1|0,*}": "{1|0,*}", "{0,*|-1}": "{0,*|-1}",
		// These are not in canonical form.
		"{*|*}": "0", "{-1|1}": "0", "{*|}": "0", "{0,1|}": "2", "{0,*|}": "1", "{0|*,^}": "{0|*,^}", "{0,1|-1}": "~1", "{1|-1,{2|-2}}": "~1", "{1|0,{2|-2}}": "{1|0}", "{{0,1|}|-1}": "{2|-1}", "{{0,1|}|{|0,-1}}": "~2", "{*,^|^,{*|*}}": "^*", "{-1,1|0,{0|2}}": "{1|0}",
	} {
		f := short(t, game)
		wantName(t, game, f, name)
		wantForm(t, fmt.Sprintf("ReadGame(%q)", name), said(t, name), true, canonOf(t, f))
		wantSaid(t, name, name)
	}
}

func TestP9KnownExpressions(t *testing.T) {
	t.Parallel()
	wantAllSaid(t, `
		0                    0
		(0)                  0
		{|}                  0
		{{|}|{{|}|{|}}}      ^
		{0|*}                ^
		2.^                  ^2
		{0|*}+*              ^*
		1+*                  1*
		1+1                  2
		1/2+1/2              1
		1/2+1/4+1/8          7/8
		1-1+1                1
		1-1-1                -1
		1-(1-1)              1
		1-(1+1)              -1
		^+^+^                ^3
		^-v                  ^2
		^+v                  0
		^2+v                 ^
		v-^                  v2
		*+*                  0
		*3+*5                *6
		*2-*2                0
		^3+*5                ^3*5
		^12+*15
		1/2^3*2+1/2v*3       1^2*
		~1+~1                0
		~1+~2                {{3|1}|{-1|-3}}
		~1+*                 {1*|-1*}
		~1+1                 {2|0}
		~1-1                 {0|-2}
		2.{1|0}              1
		3.{1|0}              {2|1}
		3.(1/2)              3/2
		3.1/2                3/2
		1.~1                 ~1
		12.0                 0
		12.*                 0
		11.*                 *
		12.1                 12
		12.^                 ^12
		12.1/2               6
		2.2.2.1              8
		2.3.^*               ^6
		2.(1+*)              2
		2.1*                 2
		2.1+*                2*
		2.(^+^)*
		2.^+^                ^3
		*+2.^                ^2*
		{1,0|}               2
		{0,0,0|}             1
		{1|0}                {1|0}
		{3,1|}               4
		{2|~1}               {2|~1}
		{(1)|(0)}            {1|0}
		({1|0})              {1|0}
		{1+1|0}              {2|0}
		{1|0}+{1|0}          1
		{1|0}-{1|0}          0
		{1|-1}               ~1
		{~1|~1}              0
		{|1,2,3}             0
		{|-1}                -2
		{|}+{|}              0
		{{|}|}               1
		{|{|}}               -1
		{{|},{{|}|}|}        2
		{0,*|0}              ^*
		{1,1*|1}             1^*
		{1|1*}               1^
		((((1))))            1
		{{{{|}|}|}|}         3
		1^                   1^
		1v2*3                1v2*3
		1/2*                 1/2*
		0^                   ^
		0*                   *
		0v3*2                v3*2
		^1                   ^
		^1*1                 ^*
		v1*1                 v*
		*1                   *
		1^1*1                1^*
		119                  119
		-119                 -119
		39+39                78
		78+19                97
		9-9                  0
		~59                  ~59
		1/65536              1/65536
		~1/65536             ~1/65536
		6710885/65536
		2+-1                 1
		2+--1                3`)
}

func TestP9MinusSigns(t *testing.T) {
	t.Parallel()
	wantAllSaid(t, `
		-1                   -1
		-12                  -12
		-1/2                 -1/2
		-1^                  -1^
		-1v*2                -1v*2
		-1/2^-*              -1/2^*
		-0
		-0/2
		-01
		-1/3
		-0^
		-00
		-
		--
		-+1
		-(0)                 0
		-(1)                 -1
		-(-1)                1
		-(1^)                -1v
		-(2.^)               v2
		-^                   v
		-v                   ^
		-^2*3                v2*3
		-*                   *
		-*2                  *2
		-~1                  ~1
		-{1|0}               {0|-1}
		-{|}                 0
		-{{|}|}              -1
		-)
		-}
		-.
		-/2
		-2.^
		-2.1
		-0.1
		-1.1
		-12.*
		--1                  1
		--1/2                1/2
		--1^                 1v
		--0
		--^                  ^
		---1                 -1
		---^                 v
		----1                1
		--2.^
		--(2.^)              ^2
		1-1                  0
		1-0                  1
		1-01
		1-1/2                1/2
		1-1/2^               1/2v
		1-1*                 *
		1-2.^                1v2
		1-2.1                -1
		1-2.-1               3
		1-12.*               1
		1-13.*
		1-0.1
		1--1                 2
		1--0
		1--2.^
		1--2.1
		1---1                0
		1----1               2
		1-^                  1v
		1--^                 1^
		1---^                1v
		1-*                  1*
		1-~1                 {2|0}
		1-{1|0}              {1|0}
		1--{1|0}             {2|1}
		1-(1)                0
		1-(-1)               2
		1--(1)               2
		1+-1                 0
		1+--1                2
		1+-^                 1v
		1+-2.^
		1-
		1--
		1-+1
		1+-
		^-1                  -1^
		^-1^                 -1
		^-1/2                -1/2^
		^-*                  ^*
		^-^                  0
		^2-2                 -2^2
		^-2.1                -2^
		^--1                 1^
		*-1                  -1*
		*2-1*3               -1*
		*-1/2                -1/2*
		v-1                  -1v
		~1-1                 {0|-2}
		~1/2-1/2             {0|-1}
		{1|0}-1              {0|-1}
		(1)-1                0
		(1)-2.1              -1
		1/2-1/2              0
		2.^-1                -1^2
		2.1-1                1
		2.1-2.1              0
		-1-1                 -2
		-1-^                 -1v
		-^-1                 -1v
		-^+1                 1v
		-1+1                 0
		-1.1
		-(1)+1               0
		-{1|0}+1             {1|0}
		-~1+1                {2|0}
		1-1-1                -1
		1-1+1                1
		~-1
		~-0
		~-1/2
		~-
		~--1
		~-^
		~-(1)
		~(-1)
		2.-1                 -2
		2.-1/2               -1
		2.-1^                -2^2
		2.-0
		2.-2.1
		2.-
		2.--1                2
		2.--2.1
		2.-(2.1)             -4
		2.-^                 v2
		2.-{1|0}             -1
		2.-~1                0
		12.-1                -12
		2.-1-1               -3
		-1/2.1
		^-.1
		(-1)                 -1
		(-^)                 v
		(-0)
		(-2.^)
		(--1)                1
		(-)
		(1-)
		(-(1))               -1
		((-1)-1)             -2
		(^-1)                -1^
		{-1|1}               0
		{-1|}                0
		{|-1}                -2
		{-^|}                0
		{|-^}                -1
		{-(1)|-{|1}}         -1/2
		{1,-1|-1,1}          ~1
		{1-1|1-1}            *
		{0|-{|0}}            1/2
		{-~1|-2}             {~1|-2}
		{--1|--2.0}
		{--1|--(0)}          {1|0}
		{1,-2.1|}
		{1|-2.1}
		{-0|}
		{|-0}
		{-|}
		{|-}
		{1,-|}
		{-,1|}
		{|1,-}
		-{-1|1}              0
		-{-(1)|}             0`)
}

func TestP9TextsThatSayNothing(t *testing.T) {
	t.Parallel()
	for _, s := range []string{
		"", "()", "(())", "{}", "{()|}", "{|()}", "{{}|}",
		// Brackets too many or too few, and of another kind.
		"(", ")", "(1", "1)", "((1)", "(1))", ")1(", "{", "}", "{|", "|}", "{1|0", "1|0}", "1|0", "{{1|0}", "{1|0}}", "{1|{0|}", "(1}", "{1)", "({1|0)}", "{(1|0)}", "{(1}|0)", "[1]", "<1>", "{[1]|}", "{<0>|}", "(1)(1)", "{|}{|}", "1(1)", "(1)1", "{|}1", "1{|}", "(1)^", "^(1)", "{|}*", "~1(1)", "2(1)",
		// Separators.
		"|", ",", "1,1", "1|1", "{1}", "{1,0}", "{||}", "{1||0}", "{1|2|3}", "{|1|}", "{,}", "{,|}", "{|,}", "{,,|}", "{1,|}", "{,1|}", "{|1,}", "{|,1}", "{1,,2|}", "{1|0,,1}", "{1;2|}", "{1|0},", ",{1|0}", "(1,2)", "(1|2)", "(|)", "(,)",
		// Signs.
		"+", "-", "1+", "+1", "1-", "++", "1++1", "1+-", "1-+1", "+-1", "(+1)", "{+1|}", "{1+|}", "{1|+}", "1*1+", "1=1", "1*=", "1&1", "1_1", "1±1", "±1", "1#1", "1:1", "%", "1!",
		// Blanks.
		" ", "  ", " 1", "1 ", "1 +1", "1+ 1", "1 + 1", "{ 1|0}", "{1 |0}", "{1| 0}", "{1|0 }", "{1, 2|}", "( 1)", "(1 )", "^ 2", "1 ^", "1/ 2", "- 1", "- ^", "2. 1", "2 .1", "~ 1", "\t1", "1\t", "1\n", "\n", "\r\n1", "1\v", "1\f", "1\x00", "\x00", "\u00a01", "1\u2003", "\u200b1", "\ufeff1",
		// Bytes beyond ASCII.
		"\x80", "\xff", "1\xff", "\xff1", "é", "↑", "↓", "±1", "1↑", "−1", "1−1", "１", "٣", "²", "^²", "½", "∗", "＊", "1＋1", "（1）", "{1｜0}", "1⋅1", "𝟙", "^\xb2", "1\xc2", "{é|}", "{|é}", "(é)", "~é", "2.é", "-é", "1+é",
		// Parts in another order, or twice.
		"*^", "*v", "*^2", "*2^", "*2^3", "^^", "vv", "^v", "v^", "^2^", "^2^2", "^v2", "**", "*2*", "*2*2", "***", "^*^", "^*v", "^**", "^*2*", "*1/2", "^1/2", "*1*1", "1*1/2", "1^1/2", "1*^", "1*2^3", "1^^", "1^v", "1**", "1/2/2", "1/2/4", "1/2^/2", "^1^1", "~1^", "~1*", "~1v2", "~1/2^*", "~1~1", "~~1", "1~1", "^~1", "*~1", "~^", "~*", "~v2", "~{1|0}", "~(1)", "~{|}",
		// Parts that are nothing.
		"^0", "v0", "*0", "^0*", "^*0", "1^0", "1v0", "1*0", "1^0*2", "1^2*0", "0^0", "0*0", "^00", "^01", "v01", "*01", "*00", "^001", "^010", "*010", "1^01", "1*01", "*-", "^1_0", "^1e1", "*0x1", "^1.0", "*1.0", "*1.", "^.", "*.",
		// Copies.
		".", ".1", "1.", "1.)", "12.", "0.1", "0.0", "00.1", "01.1", "001.1", "012.1", "010.^", "13.*", "13.0", "14.0", "19.0", "20.0", "21.0", "99.0", "100.0", "112.0", "120.0", "121.0", "1000000.0", "+1.1", "-1.1", "1..1", "1.+1", "1.*.1", "1/2.1", "2/1.1", "1^.1", "^.1", "^2.1", "*.1", "*2.1", "~1.1", "(2).1", "(1).1", "{|}.1", "{|1}.1", "2.()", "2.{}", "2.2.", "2.2.^.1", "1,.1", "1.,1", "2.1.1/", "a.1", "\x31\xff.1",
		// Switches.
		"~", "~0", "~00", "~01", "~+1", "~0/2", "~2/2", "~2/4", "~1/3", "~1/", "~/2", "~1/02", "~1/0", "~1/131072", "~1000001", "~60", "~61", "~120", "~1000000", "~a", "~)", "(~)", "{~|}", "{~0|}",
		// Numbers that are never written.
		"00", "01", "001", "0/1", "0/2", "1/1", "2/1", "2/2", "2/4", "4/2", "6/4", "3/6", "1/3", "1/6", "1/0", "1/02", "1/00", "01/2", "1/2/", "1/", "/", "/2", "//", "1//2", "1/-2", "1/+2", "1/(2)", "-1/-2", "1/131072", "3/131072", "0.5", "01.5", "1,000", "1e1", "0x1", "1_0", "1/2.0", "65536/65536", "1/65537", "1/4294967296", "1/18446744073709551618", "1/2a", "a", "x", "V", "one", "true", "nil", "NaN", "Inf", "0b1",
	} {
		wantNothingSaid(t, s)
		wantReading(t, s)
	}
	// Of these, one term less or more says a game.
	wantAllSaid(t, `
		1.0                  0
		1.5                  5
		2.2                  4
		2.2.0                0`)
}

func TestP9AllShortTexts(t *testing.T) {
	t.Parallel()
	good := map[bool]int{}
	for alphabet, longest := range map[string]int{
		"012-.^v*~(){|},+/": 3, "12-.^": 5, "1{|}": 6, "0{|,}": 5, "(1)-": 5, "01/2-": 5, "^v*12": 4, "01.*": 5, "~12/": 5, "(){|}": 5, "0{}|+-": 4, "139.": 4, "-~^(1)": 4,
	} {
		for _, s := range textsOf(alphabet, longest) {
			good[wantReading(t, s)]++
		}
	}
	if good[true] < 1000 {
		t.Error("too few texts that say a game", good)
	}
}

// phrases are texts of all kinds of terms and units, one of them close to each rule of the grammar.
func phrases() []string {
	return []string{
		"0", "-1/2", "^", "v2", "*3", "-3/2v2*3", "3^4*5", "~1", "~3/4", "{|}", "{1,0|*,-^}", "(1)", "-(1)", "--^", "2.^*", "2.-1", "12.*2", "2.3.(*2)", "1+*", "1-1", "1--1", "1-2.^", "^-1/2", "{~1|-2}", "{1|{0|-1}}", "{-1,{1|}|}+1", "(1+*)-{1|0}", "-{2|~1}+3.(1/2)", "({|1})-^*", "{{1|0},*|-1}",
	}
}

func TestP9ChangedTexts(t *testing.T) {
	t.Parallel()
	good := map[bool]int{}
	alphabet := "0129-+.^v*~(){|},/ \x00x\xff"
	for _, s := range phrases() {
		if !wantReading(t, s) {
			t.Errorf("%q says nothing", s)
		}
		for i := range len(s) + 1 {
			for k := range len(alphabet) {
				good[wantReading(t, s[:i]+alphabet[k:k+1]+s[i:])]++
				if i < len(s) {
					good[wantReading(t, s[:i]+alphabet[k:k+1]+s[i+1:])]++
				}
			}
			if i < len(s) {
				good[wantReading(t, s[:i]+s[i+1:])]++
				good[wantReading(t, s[:i])]++
				good[wantReading(t, s[i:])]++
			}
		}
	}
	if good[true] < 1000 || good[false] < 5000 {
		t.Error("too few texts", good)
	}
}

func TestP9EveryByte(t *testing.T) {
	t.Parallel()
	for i, c := range []byte(everyByte()) {
		s := everyByte()[i : i+1]
		for _, text := range []string{s, s + "1", "1" + s, "1" + s + "1", "(" + s + ")", "{" + s + "|}", "{|" + s + "}", "{1" + s + "0}", "~" + s, "~1" + s, "^" + s, "2." + s, "2" + s + "1", "-" + s, "*" + s + "*", "1/" + s, "1/2" + s} {
			if wantReading(t, text) && (c >= 0x80 || c <= ' ' || !strings.Contains("0123456789-+.^v*~(){|},/", s)) {
				t.Errorf("%q says a game", text)
			}
		}
	}
}

// around opens brackets of the kinds in turn and closes them again.
func around(kinds []string, count int, inner string) string {
	for i := range count {
		kind := strings.Split(kinds[i%len(kinds)], "?")
		inner = kind[0] + inner + kind[1]
	}
	return inner
}

func TestP9OpenBrackets(t *testing.T) {
	t.Parallel()
	for _, kinds := range [][]string{{"(?)"}, {"{?|}"}, {"{|?}"}, {"(?)", "{?|}"}, {"{?|}", "(?)"}, {"{?|}", "{|?}"}, {"{?|}", "{|?}", "(?)"}, {"-(?)"}, {"{0,?|}"}, {"{-1|?,1}"}, {"(?+0)", "(0+?)"}, {"1.(?)"}, {"(1)-(?)"}, {"{|}+{|}-(?)"}} {
		for count := 36; count <= mostOpen+3; count++ {
			for _, inner := range []string{"1", "*", "(1)", "{|}", "{1|0}", "((1))", "(1)+(1)", "{(1)|(0)}"} {
				s := around(kinds, count, inner)
				if says := wantReading(t, s); says != (len(s) <= mostName && count+openAtOnce(inner) <= mostOpen) {
					t.Errorf("ReadGame(%q) with %d open brackets: %v", s, openAtOnce(s), says)
				}
			}
		}
	}
	open, shut := strings.Repeat("(", mostOpen), strings.Repeat(")", mostOpen)
	wantSaid(t, open+"1"+shut, "1")
	wantNothingSaid(t, open+"(1)"+shut)
	wantNothingSaid(t, open+"{|}"+shut)
	wantSaid(t, open[1:]+"{|}"+shut[1:], "0")
	wantSaid(t, strings.Repeat("{", mostOpen)+strings.Repeat("|}", mostOpen), "39")
	wantNothingSaid(t, strings.Repeat("{", mostOpen+1)+strings.Repeat("|}", mostOpen+1))
	wantSaid(t, strings.Repeat("{|", mostOpen)+strings.Repeat("}", mostOpen), "-39")
	wantNothingSaid(t, strings.Repeat("{|", mostOpen+1)+strings.Repeat("}", mostOpen+1))
	wantSaid(t, strings.Repeat("({", mostOpen/2)+strings.Repeat("|})", mostOpen/2), "19")
	wantNothingSaid(t, strings.Repeat("({", mostOpen/2)+"()"+strings.Repeat("|})", mostOpen/2))
	wantNothingSaid(t, strings.Repeat("({", mostOpen/2)+"{|}"+strings.Repeat("|})", mostOpen/2))
	wantNothingSaid(t, strings.Repeat("({", mostOpen/2)+"(0)"+strings.Repeat("|})", mostOpen/2))
	// Brackets that are closed again do not count.
	wantSaid(t, strings.Repeat("(1)-", 74)+"(1)", "-73")
	wantSaid(t, strings.Repeat("{|}+", 60)+"{|}", "0")
	wantSaid(t, "{"+strings.Repeat("(0),", 60)+"(0)|}", "1")
	wantSaid(t, open[1:]+"(1)+(1)+{|}"+shut[1:], "2")
	for _, s := range []string{open, shut, open + open, open + "1", open + "1" + shut + ")", open + "1" + shut[1:], open + "(", strings.Repeat("(", mostName), strings.Repeat("{", mostName), strings.Repeat("({", mostName/2), strings.Repeat("{|", mostName/2)} {
		wantNothingSaid(t, s)
	}
}

func TestP9LongestTexts(t *testing.T) {
	t.Parallel()
	zeros := strings.Repeat("0+", 149)
	for s, name := range map[string]string{
		zeros + "*2": "*2", zeros + "-1": "-1", zeros + "^5": "^5", zeros + "0": "0", zeros + "v": "v",
		strings.Repeat("-", 299) + "^": "v", strings.Repeat("-", 298) + "^": "^", strings.Repeat("-", 298) + "-1": "-1", strings.Repeat("-", 297) + "-1": "1",
		strings.Repeat("1.", 149) + "*2": "*2", strings.Repeat("12.", 99) + "(0)": "0", strings.Repeat("12.", 98) + "*3-*": "*",
		strings.Repeat("{|}+", 74) + "^*15": "^*15", "{" + strings.Repeat("0,", 99) + "0|" + strings.Repeat("1,", 48) + "1}": "1/2",
	} {
		if len(s) > mostName {
			t.Fatal("too long", len(s))
		}
		wantSaid(t, s, name)
	}
	for _, s := range []string{zeros + "*12", zeros + "(0)", zeros + "0+0", strings.Repeat("-", 300) + "^", strings.Repeat("-", 300) + "1", strings.Repeat("1.", 150) + "*", "{" + strings.Repeat("0,", 99) + "0|" + strings.Repeat("1,", 48) + "1,1}"} {
		if len(s) <= mostName {
			t.Errorf("a text of only %d bytes: %q", len(s), s)
		}
		wantNothingSaid(t, s)
	}
	for _, n := range ints(150, 151, 200, 1000, 4000, 1000000) {
		wantNothingSaid(t, strings.Repeat("0+", n)+"0")
		wantNothingSaid(t, strings.Repeat("0", 2*n))
		wantNothingSaid(t, strings.Repeat(" ", 2*n))
		wantNothingSaid(t, "0"+strings.Repeat(" ", 2*n))
		wantNothingSaid(t, strings.Repeat("(", n)+"1"+strings.Repeat(")", n))
		wantNothingSaid(t, "^"+strings.Repeat("1", n))
		wantNothingSaid(t, strings.Repeat("1", n)+".0")
		wantNothingSaid(t, strings.Repeat("-", 2*n)+"^")
	}
}

// huge has integers as digits, up to some that an int does not hold, or holds another number after them.
func huge() []string {
	l := []string{"16", "24", "99", "121", "256", "257", "65536", "65537", "999999", "1000000", "1000001", "2147483647", "2147483648", "4294967295", "4294967296", "4294967297", "9223372036854775807", "9223372036854775808", "9223372036854775809", "18446744073709551615", "18446744073709551616", "18446744073709551617", "18446744073709551628", "36893488147419103233", "340282366920938463463374607431768211457"}
	for _, zeros := range ints(20, 50, 100, 290) {
		l = append(l, "1"+strings.Repeat("0", zeros), strings.Repeat("0", zeros)+"1", strings.Repeat("1", zeros))
	}
	return l
}

func TestP9EndsOfRanges(t *testing.T) {
	t.Parallel()
	for n := 1; n <= mostUps+3; n++ {
		for _, mark := range []string{"^", "v"} {
			s := mark + map[bool]string{false: fmt.Sprint(n)}[n == 1]
			if n <= mostUps {
				wantSaid(t, s, s)
				wantSaid(t, s+"*", s+"*")
				wantSaid(t, "1"+s, "1"+s)
			} else {
				wantNothingSaid(t, s)
				wantNothingSaid(t, s+"*")
				wantNothingSaid(t, "1"+s)
				wantNothingSaid(t, "{0|"+s+"}")
			}
		}
	}
	for star := 1; star <= mostStar+3; star++ {
		s := "*" + map[bool]string{false: fmt.Sprint(star)}[star == 1]
		for _, before := range []string{"", "^", "v12", "-1/2", "1^2"} {
			if star <= mostStar {
				wantSaid(t, before+s, before+s)
			} else {
				wantNothingSaid(t, before+s)
				wantNothingSaid(t, "("+before+s+")")
			}
		}
	}
	for k := 1; k <= mostSummed+3; k++ {
		if s := fmt.Sprintf("%d.1", k); k <= mostSummed {
			wantSaid(t, s, fmt.Sprint(k))
			wantReading(t, fmt.Sprintf("%d.~1", k))
			wantReading(t, fmt.Sprintf("%d.-^*", k))
		} else {
			wantNothingSaid(t, s)
			wantNothingSaid(t, fmt.Sprintf("%d.0", k))
		}
	}
	for _, digits := range huge() {
		for _, s := range []string{"^?", "v?", "*?", "^*?", "1^?", "1*?", "^?*", "-^?", "2.^?", "{*?|}", "?.0", "?.^", "-?.0"} {
			wantNothingSaid(t, strings.ReplaceAll(s, "?", digits))
		}
		for _, s := range []string{"?", "-?", "~?", "?^", "?*", "1/?", "1/?^", "?/2", "~?/2", "{?|}"} {
			wantReading(t, strings.ReplaceAll(s, "?", digits))
		}
	}
	for n := 100; n <= 125; n++ {
		for _, s := range []string{"?", "-?", "{?|}", "{|-?}", "(?)"} {
			text := strings.ReplaceAll(s, "?", fmt.Sprint(n))
			f, ok := impl.ReadGame(text)
			wantBool(t, text, ok, true, n < mostNodes-map[bool]int{true: 1}[strings.Contains(s, "|")])
			if ok && len(f.Nodes) != n+1+map[bool]int{true: 1}[strings.Contains(s, "|")] {
				t.Errorf("%q has %d nodes", text, len(f.Nodes))
			}
		}
		wantReading(t, fmt.Sprintf("~%d", n/2))
		if n/2 < mostNodes/2 {
			wantSaid(t, fmt.Sprintf("~%d", n/2), fmt.Sprintf("~%d", n/2))
		} else {
			wantNothingSaid(t, fmt.Sprintf("~%d", n/2))
		}
	}
}

// wantParts checks NusForm by adding, the result by its options, and that NusOf has the parts of a game exactly if NusForm has the game.
func (b builder) wantParts(t *testing.T, x nus) bool {
	t.Helper()
	label := fmt.Sprint("the sum ", x)
	want, fine := x.sum()
	f, ok := impl.NusForm(x.d, x.n, x.star)
	game, fits := b.build(t, x)
	is, canonical := impl.IsCanon(game)
	wantBool(t, "IsCanon "+label, is, canonical == fits, fits)
	if !fine {
		wantNoForm(t, label, f, ok)
		wantNoNus(t, label, game)
		wantNothingSaid(t, x.name())
		return false
	}
	wantForm(t, label, f, ok, want)
	wantForm(t, label+" by its options", f, ok, game)
	wantNus(t, label, game, x)
	wantName(t, label, game, x.name())
	f, ok = impl.ReadName(x.name())
	wantForm(t, "ReadName of "+label, f, ok, game)
	return true
}

func TestP9NumbersUpsAndStars(t *testing.T) {
	t.Parallel()
	b, good := builder{}, map[bool]int{}
	for i, d := range numbers(t, "0 1 -3/2 7 -40") {
		for k, s := range allSums() {
			if i == 0 || (i+k)%9 == 0 {
				good[b.wantParts(t, nus{d, s[0], s[1]})]++
			}
		}
	}
	for i, d := range append(numbersBorn(6), smallDyadics(119, 0)...) {
		if max(d.Top, -d.Top) > 12 && d.Pow == 0 && i%5 > 0 {
			continue
		}
		for k, s := range [][2]int{{0, 0}, {0, 1}, {1, 0}, {-1, 1}, {1, 1}, {0, 2}, {-1, 0}, {2, 3}, {-3, 1}, {12, 0}, {0, 15}, {-12, 15}} {
			if k == 0 || (i+k)%7 == 0 {
				good[b.wantParts(t, nus{d, s[0], s[1]})]++
			}
		}
	}
	if good[true] < 600 || good[false] < 60 {
		t.Error("too few sums", good)
	}
}

func TestP9SumsAmongOtherGames(t *testing.T) {
	t.Parallel()
	g := newGallery()
	for _, d := range numbers(t, "0 1 -1/2 3 -11/4") {
		for i, s := range allSums() {
			if f, ok := impl.NusForm(d, s[0], s[1]); ok && i%17 == 0 {
				g.want(t, fmt.Sprint("the sum ", d, s), f, ok, g.canon(g.sum(g.number(d), g.sum(g.ups(s[0]), g.star(s[1])))))
			}
		}
	}
}

func TestP9NusFormOutsideTheRanges(t *testing.T) {
	t.Parallel()
	badUps := append(extremeInts(), -13, -14, -120, 13, 14, 120)
	badStars := append(extremeInts(), -1, -2, -15, 16, 17, 24, 120)
	badNumbers := append(invalidDyadics(), numbers(t, "120 -120 121 1000000 -1000000 999999/2 -239/2")...)
	for _, d := range append(numbers(t, "0 1 -1/2"), badNumbers...) {
		for _, n := range append(badUps, 0, 1, -12, 12) {
			for _, star := range badStars {
				wantNoNusForm(t, d, n, star)
			}
		}
		for _, n := range badUps {
			for _, star := range ints(0, 1, 15) {
				wantNoNusForm(t, d, n, star)
			}
		}
	}
	for _, d := range badNumbers {
		for _, s := range [][2]int{{0, 0}, {0, 1}, {1, 0}, {-12, 15}} {
			wantNoNusForm(t, d, s[0], s[1])
		}
	}
	b := builder{}
	for _, n := range ints(-12, -11, 0, 11, 12) {
		for _, star := range ints(0, 1, 14, 15) {
			if !b.wantParts(t, nus{dyadic(0, 0), n, star}) {
				t.Error("no sum of 0 and ", n, star)
			}
			b.wantParts(t, nus{dyadic(1, 0), n, star})
			b.wantParts(t, nus{dyadic(-1, 1), n, star})
		}
	}
}

// The parts of a sum may be valid and the canonical form within the limits, but the sum beyond them before it is simplified.
func TestP9SumsThatFail(t *testing.T) {
	t.Parallel()
	b := builder{}
	for s, x := range map[string]nus{"6*15": {dyadic(6, 0), 0, 15}, "59*": {dyadic(59, 0), 0, 1}, "-59*": {dyadic(-59, 0), 0, 1}, "14*7": {dyadic(14, 0), 0, 7}, "39^": {dyadic(39, 0), 1, 0}} {
		if _, ok := x.sum(); !ok {
			t.Error("the sum", x, "fails")
		}
		wantSaid(t, s, s)
		b.wantParts(t, x)
	}
	for s, x := range map[string]nus{"7*15": {dyadic(7, 0), 0, 15}, "60*": {dyadic(60, 0), 0, 1}, "-60*": {dyadic(-60, 0), 0, 1}, "15*7": {dyadic(15, 0), 0, 7}, "40^": {dyadic(40, 0), 1, 0}, "-40v": {dyadic(-40, 0), -1, 0}, "119*": {dyadic(119, 0), 0, 1}} {
		if _, ok := x.sum(); ok {
			t.Error("the sum", x, "does not fail")
		}
		wantNothingSaid(t, s)
		wantNothingSaid(t, "("+s+")")
		wantNothingSaid(t, "{"+s+"|}")
		wantNothingSaid(t, "{0|"+s+"}")
		wantNothingSaid(t, "0+"+s)
		b.wantParts(t, x)
	}
	// These games have other names, as they have no parts.
	for name, x := range map[string]nus{
		"{60|60}": {dyadic(60, 0), 0, 1}, "{-60|-60}": {dyadic(-60, 0), 0, 1}, "{118|118}": {dyadic(118, 0), 0, 1}, "{40|40*}": {dyadic(40, 0), 1, 0}, "{-40*|-40}": {dyadic(-40, 0), -1, 0}, "{60|{60|60}}": {dyadic(60, 0), 1, 0}, "{40|{40|40*}}": {dyadic(40, 0), 2, 1},
		"{7,7*,7*2,7*3,7*4,7*5,7*6,7*7,7*8,7*9,7*10,7*11,7*12,7*13,7*14|7,7*,7*2,7*3,7*4,7*5,7*6,7*7,7*8,7*9,7*10,7*11,7*12,7*13,7*14}": {dyadic(7, 0), 0, 15},
	} {
		f, _ := b.build(t, x)
		wantName(t, x.name(), f, name)
		wantSaid(t, name, name)
		wantNoNus(t, x.name(), said(t, name))
	}
	wantAllSaid(t, `
		119+1
		119+*
		118+1                119
		118+2
		60+60
		40-40
		40+39
		39+40
		39+39                78
		78+20
		10-10
		9-9                  0
		12.10
		12.9                 108
		8.8                  64
		12.12.1
		12.~1                0
		12.*15
		*15+*14
		*10+*5               *15
		^12+*15
		^12*15               ^12*15
		(^12*15)+0           ^12*15
		2.40
		60*-60
		~30+~29
		7*15-7
		{119|}
		{118|}               119
		{|-119}
		{|-118}              -119
		{60|-60}
		{60|-59}
		{59|-59}             ~59
		{60|-58}             {60|-58}
		{1,119|}
		{119|119}
		{118|118}            {118|118}
		-119                 -119
		--119                119
		0+119                119
		119+0                119
		119-0                119
		0-119                -119
		1.119                119
		0-(0-119)            119`)
}

// listed joins the first integers.
func listed(from int, to int) string {
	var l []string
	for n := from; n <= to; n++ {
		l = append(l, fmt.Sprint(n))
	}
	return strings.Join(l, ",")
}

func TestP9ValidGamesOnly(t *testing.T) {
	t.Parallel()
	wantSaid(t, "{"+listed(0, 23)+"|}", "24")
	wantNothingSaid(t, "{"+listed(0, 24)+"|}")
	wantSaid(t, "{|"+listed(-23, 0)+"}", "-24")
	wantNothingSaid(t, "{|"+listed(-24, 0)+"}")
	wantSaid(t, "{"+listed(-23, 0)+"|"+listed(1, 24)+"}", "1/2")
	wantNothingSaid(t, "{"+listed(-24, 0)+"|"+listed(1, 24)+"}")
	wantNothingSaid(t, "{"+listed(-23, 0)+"|"+listed(1, 25)+"}")
	wantNothingSaid(t, "{("+listed(0, 24)+"|)|}")
	wantNothingSaid(t, "{{"+listed(0, 24)+"|}|}")
	// Identical options count once, but there may be no more than 100.
	wantSaid(t, "{"+strings.Repeat("0,", 99)+"0|}", "1")
	wantNothingSaid(t, "{"+strings.Repeat("0,", 100)+"0|}")
	wantSaid(t, "{|"+strings.Repeat("*,", 99)+"*}", "0")
	wantNothingSaid(t, "{|"+strings.Repeat("*,", 100)+"*}")
	wantSaid(t, "{"+strings.Repeat("0,", 60)+"0|"+strings.Repeat("*,", 60)+"*}", "^")
	// An option is the game as it is written. Only a sum, copies and the whole text are simplified.
	wantAllSaid(t, `
		{60,{-60|}|}
		{60,({-60|})|}
		{60,--{-60|}|}
		{60,{-60|}+0|}       61
		{60,1.{-60|}|}       61
		{60,0-{-60|}|}       61
		{60,(0+{-60|})|}     61
		{60,0|}              61
		{58,{-58|}|}         59
		{-60,{60|60}|}
		{-60,{59|60}|}
		{59,{-1|}|}          60`)
	zeros := []string{"{*|*}", "{-1|}", "{|1}", "{-1|1}", "{-2|}", "{|2}", "{-2|1}", "{-1|2}", "{-2|2}", "{*|}", "{|*}", "{*|1}", "{-1|*}", "{v|}", "{|^}", "{v|^}", "{v|*}", "{*|^}", "{v|1}", "{-1|^}", "{*|2}", "{-2|*}", "{-3|}", "{|3}", "{-3|*}"}
	wantSaid(t, "{"+strings.Join(zeros[:24], ",")+"|}", "1")
	wantNothingSaid(t, "{"+strings.Join(zeros, ",")+"|}")
	wantNothingSaid(t, "{"+strings.Join(zeros[:24], ",")+",0|}")
	wantSaid(t, "{"+strings.Join(zeros[:23], ",")+",0,0+"+zeros[23]+"|}", "1")
	wantSaid(t, "{0+"+strings.Join(zeros, ",0+")+"|}", "1")
}

// equals has other games of the same value.
func equals(t *testing.T, f impl.Form) []impl.Form {
	t.Helper()
	l := []impl.Form{f}
	left, right, _ := impl.OptionsOf(f)
	for _, zero := range []impl.Form{short(t, "{*|*}"), short(t, "{-1|1}"), short(t, "{*|}"), added(t, nimber(2), nimber(2))} {
		if sum, ok := impl.SumForms(f, zero); ok {
			l = append(l, sum)
		}
		if g, ok := impl.MakeForm(allAdded(left, zero), allAdded(right, zero)); ok {
			l = append(l, g)
		}
	}
	for _, low := range ints(-30, -31) {
		if g, ok := impl.MakeForm(append(slices.Clone(left), integer(low)), right); ok && len(left) > 0 {
			l = append(l, g)
		}
		if g, ok := impl.MakeForm(left, append(slices.Clone(right), integer(-low))); ok && len(right) > 0 {
			l = append(l, g)
		}
	}
	return l
}

func TestP9NamesOfEqualGames(t *testing.T) {
	t.Parallel()
	checked := 0
	for _, s := range strings.Fields("0 1 -1 2 1/2 -3/4 * *2 *7 ^ v ^2 v3 ^* v* ^2* ^*2 1* 1^ -1v2*3 1/2*5 3^12 ~1 ~2 ~1/2 ~3/4 ~5 {1|0} {0|-1} {2|~1} {~1|-2} {1*|-1*} {1|*} {^|-1} {0|{0|-1}} {1|{1|0}} {{3|1}|{-1|-3}} {2,{2|0}|-1} {1*|-1} {0,~1|-2} {0,*|-1} {1|0,*} {60|60} {40|40*}") {
		f := said(t, s)
		for i, g := range equals(t, f) {
			if canon, ok := impl.CanonOf(g); ok && sameNodes(canon, f) {
				wantName(t, fmt.Sprintf("%s (%d)", s, i), g, s)
				checked++
			}
		}
	}
	if checked < 250 {
		t.Error("only", checked, "games")
	}
}

func TestP9NamesOfMixedGames(t *testing.T) {
	t.Parallel()
	s, counts := newScribe(), map[string]int{}
	for i, f := range append(append(plainForms(plainDay2()), sample()...), crowded(t, 150)...) {
		s.wantNamed(t, fmt.Sprint("mixed game ", i), f, counts)
	}
	for nodes := 3; nodes <= 24; nodes++ {
		for i, f := range tangles(nodes, 12) {
			s.wantNamed(t, fmt.Sprintf("tangle %d of %d nodes", i, nodes), f, counts)
		}
	}
	for i, f := range smalls(t, 120) {
		s.wantNamed(t, fmt.Sprint("small game ", i), f, counts)
	}
	if counts["nus"] < 700 || counts["~"] < 20 || counts["{"] < 500 || counts["long"] < 2 {
		t.Error("too few names of a kind", counts)
	}
}

// These are near to numbers with ups and a star.
func TestP9NeighboursOfSums(t *testing.T) {
	t.Parallel()
	s, counts := newScribe(), map[string]int{}
	for _, d := range numbers(t, "0 1 -1/2") {
		for _, u := range [][2]int{{0, 0}, {0, 1}, {0, 2}, {1, 0}, {1, 1}, {-1, 0}, {-1, 1}, {2, 0}, {2, 1}, {-2, 3}, {1, 2}, {3, 2}} {
			f, ok := impl.NusForm(d, u[0], u[1])
			if !ok {
				t.Fatal("no sum of", d, u)
			}
			g := numberForm(t, d)
			l := neighbours(t, f)
			for _, lists := range [][2][]impl.Form{{{g}, {f}}, {{f}, {g}}, {{g, f}, {g}}, {{g}, {g, f}}, {{g, f}, {g, f}}, {{f}, {f}}, {{g}, {integer(3), f}}, {{g, integer(-3)}, {f}}, {{integer(1)}, {f}}, {{f}, {integer(-1)}}} {
				l = append(l, made(t, lists[0], lists[1]))
			}
			for i, h := range l {
				s.wantNamed(t, fmt.Sprintf("neighbour %d of %v and %v", i, d, u), h, counts)
			}
		}
	}
	if counts["nus"] < 800 || counts["{"] < 400 {
		t.Error("too few games of a kind", counts)
	}
}

func TestP9Switches(t *testing.T) {
	t.Parallel()
	good := 0
	for _, a := range numbers(t, "0 1 2 -1 1/2 -1/2 3/4 5 9/8 1/65536 59 -7/2") {
		for _, b := range numbers(t, "0 -1 -2 1 -1/2 1/2 -3/4 -5 -9/8 -1/65536 -59 7/2 -7/2") {
			f, ok := impl.SwitchForm(a, b)
			if !ok || a == b {
				continue
			}
			high, _ := impl.DyadicText(a)
			low, _ := impl.DyadicText(b)
			name := "{" + high + "|" + low + "}"
			if a == minus(b) {
				name = "~" + high
			}
			wantName(t, "the switch of "+high+" and "+low, f, name)
			wantSaid(t, name, name)
			wantSaid(t, "{"+high+"|"+low+"}", name)
			// A switch may be an option of another one, or have ups or a star for its number.
			wantReading(t, "{"+name+"|-99}")
			wantReading(t, "{"+high+"*|"+low+"*}")
			wantReading(t, "{"+high+"^|"+low+"v}")
			wantReading(t, name+"+*")
			good++
		}
	}
	if good < 60 {
		t.Error("only", good, "switches")
	}
	wantAllSaid(t, `
		{1*|-1}              {1*|-1}
		{1*|-1*}             {1*|-1*}
		{1|-1*}              {1|-1*}
		{1^|-1v}             {1^|-1v}
		{1^|-1^}             {1^|-1^}
		{^|v}                *
		{^|-1}               {^|-1}
		{1|0}                {1|0}
		{0|0}                *
		{1|1}                1*
		{~1|-1}              {~1|-1}
		{1|~1}               {1|~1}
		{~1|1}               0
		{~1|~1}              0
		{1|-1,-1*}           {1|-1,-1*}
		{1,1*|-1}            {1,1*|-1}
		{1,~2|-1}            ~1
		{1,0|-1}             ~1
		{{1|0}|{0|-1}}       0
		{{2|1}|{-1|-2}}      {{2|1}|{-1|-2}}
		~1+0                 ~1
		~1-~1                0
		~2-~1                {{3|1}|{-1|-3}}
		~1/2+~1/2            0
		2.~3/4               0
		-~3/4                ~3/4
		{3/4|-3/4}           ~3/4
		{3/2|-3/4}           {3/2|-3/4}
		{2|~1}               {2|~1}
		{2|1+~1}             {2|{2|0}}`)
}

// upstairs and downstairs have games whose names can be told without them.
func upstairs(t *testing.T, low int, high int) (impl.Form, string) {
	t.Helper()
	f, name := integer(low), fmt.Sprint(low)
	for n := low + 1; n <= high; n++ {
		f, name = made(t, []impl.Form{integer(n)}, []impl.Form{f}), fmt.Sprintf("{%d|%s}", n, name)
	}
	return f, name
}

func downstairs(t *testing.T, low int, high int) (impl.Form, string) {
	t.Helper()
	f, name := integer(-low), fmt.Sprint(-low)
	for n := low + 1; n <= high; n++ {
		f, name = made(t, []impl.Form{f}, []impl.Form{integer(-n)}), fmt.Sprintf("{%s|%d}", name, -n)
	}
	return f, name
}

func TestP9LongestNames(t *testing.T) {
	t.Parallel()
	lengths := map[int]int{}
	for high := 23; high <= 29; high++ {
		for low := range 16 {
			up, upName := upstairs(t, 1+low%8, high)
			down, downName := downstairs(t, 1, 57+low/8-high)
			f, name := made(t, []impl.Form{up}, []impl.Form{down}), "{"+upName+"|"+downName+"}"
			if len(name) < mostName-3 {
				continue
			}
			is, ok := impl.IsCanon(f)
			wantBool(t, "IsCanon "+name, is, ok, true)
			lengths[len(name)]++
			if len(name) <= mostName {
				wantName(t, name, f, name)
				wantSaid(t, name, name)
				wantForm(t, name, said(t, name), true, f)
			} else {
				wantNoName(t, name, f)
				wantNothingSaid(t, name)
			}
			// The name of an option is part of a name, and the game that has it is beyond the limit, too.
			wantNoName(t, "a game above "+name, made(t, []impl.Form{integer(high + 1)}, []impl.Form{f}))
		}
	}
	for length := mostName - 2; length <= mostName+3; length++ {
		if lengths[length] == 0 {
			t.Error("no name of", length, "bytes", lengths)
		}
	}
}

// A name may have more brackets open at the same time than an expression may have.
func TestP9DeepNames(t *testing.T) {
	t.Parallel()
	for high := 38; high <= 43; high++ {
		for _, stairs := range []func(*testing.T, int, int) (impl.Form, string){upstairs, downstairs} {
			f, name := stairs(t, 0, high)
			wantName(t, name, f, name)
			if openAtOnce(name) <= mostOpen {
				wantSaid(t, name, name)
				wantForm(t, name, said(t, name), true, f)
			} else {
				wantNothingSaid(t, name)
			}
		}
	}
	// Names are told by the canonical form, however deep the form is.
	for nodes := 90; nodes <= mostNodes; nodes++ {
		wantName(t, "a ladder", ladderOf(nodes), map[bool]string{false: "0", true: "*"}[nodes%2 == 0])
		wantName(t, "a chain", chainOf(nodes), fmt.Sprint(nodes-1))
	}
}

func TestP9TextsThatAreNoNames(t *testing.T) {
	t.Parallel()
	for s, name := range map[string]string{
		"*1": "*", "^1": "^", "v1": "v", "^1*": "^*", "^*1": "^*", "1*1": "1*", "1^1*1": "1^*", "0*": "*", "0^": "^", "0v2*3": "v2*3", "{0|*}": "^", "{1|-1}": "~1", "1+1": "2", "(1)": "1", "(0)": "0", "(^)": "^", "{2,1|0}": "{2|0}", "{1,2|0}": "{2|0}", "--1": "1", "-(1)": "-1", "-^": "v", "1-0": "1", "0+1": "1", "1.1": "1",
		"{|}": "0", "{0|}": "1", "{0|0}": "*", "{0|1}": "1/2", "{0,*|0}": "^*", "{1|1}": "1*", "{1|1*}": "1^", "{0|0,0}": "*", "{(1)|0}": "{1|0}", "{1|-(0)}": "{1|0}", "{1*1|0}": "{1*|0}", "{*|0,0}": "v", "{{1|-1}|-1}": "{~1|-1}", "{1|0}+0": "{1|0}", "({1|0})": "{1|0}", "-{0|-1}": "{1|0}", "1-{1|0}": "{1|0}",
		// The options are in the order of chapter 3.
		"{1|*,0}": "{1|0,*}", "{*,0|-1}": "{0,*|-1}", "{{2|0},2|-1}": "{2,{2|0}|-1}", "{~1,0|-2}": "{0,~1|-2}", "{1|0,*,0}": "{1|0,*}", "~1+*": "{1*|-1*}", "*2-*3": "*", "{3|~1}+1": "{4|{2|0}}",
	} {
		wantSaid(t, s, name)
		if s == name {
			t.Errorf("%q is a name", s)
		}
	}
	for _, s := range []string{"", "-", "x", " 0", "0 ", "{1|0", "60*", "7*15", "^13", "*16", "120", "00", "-0", "^0", "~0", "~60", "{1|0}}"} {
		f, ok := impl.ReadName(s)
		wantNoForm(t, fmt.Sprintf("ReadName(%q)", s), f, ok)
	}
}

func TestP9NamesDiffer(t *testing.T) {
	t.Parallel()
	names, forms := map[string]string{}, 0
	for _, f := range append(append(plainForms(plainDay2()), crowded(t, 200)...), tangles(10, 150)...) {
		name, ok := impl.NameOf(f)
		if !ok {
			continue
		}
		text := fmt.Sprint(canonOf(t, f))
		if other, found := names[name]; found && other != text {
			t.Errorf("%q is the name of two games", name)
		} else if !found {
			forms++
		}
		names[name] = text
	}
	if forms < 100 {
		t.Error("only", forms, "names")
	}
}

// wantBoth checks what two names say in an expression.
func wantBoth(t *testing.T, a string, b string) int {
	t.Helper()
	f, g := said(t, a), said(t, b)
	minus := negated(t, g)
	good := 0
	for s, l := range map[string][]impl.Form{a + "+(" + b + ")": {f, g}, a + "-(" + b + ")": {f, minus}, "(" + a + ")+" + b: {f, g}, a + "+" + b: {f, g}, "3.(" + b + ")": {g, g, g}, "2.-(" + b + ")": {minus, minus}, "(2.(" + a + "))-(" + b + ")": {f, f, minus}} {
		want, fine := impl.CanonSum(l)
		h, ok := impl.ReadGame(s)
		if fine {
			wantForm(t, fmt.Sprintf("ReadGame(%q)", s), h, ok, want)
			good++
		} else {
			wantNoForm(t, fmt.Sprintf("ReadGame(%q)", s), h, ok)
		}
	}
	for s, lists := range map[string][2][]impl.Form{"{" + a + "|" + b + "}": {{f}, {g}}, "{" + b + ",0|-(" + a + "),*}": {{g, zeroGame()}, {negated(t, f), nimber(1)}}} {
		want, fine := impl.MakeForm(lists[0], lists[1])
		h, ok := impl.ReadGame(s)
		if fine {
			wantForm(t, fmt.Sprintf("ReadGame(%q)", s), h, ok, canonOf(t, want))
			good++
		} else {
			wantNoForm(t, fmt.Sprintf("ReadGame(%q)", s), h, ok)
		}
	}
	return good
}

func TestP9SumsOfNames(t *testing.T) {
	t.Parallel()
	names := strings.Fields("0 1 -2 5/4 40 * *5 *9 ^ v2 ^12 ^* -1/2v2*3 ~1 ~3/4 ~20 {1|0} {2|~1} {1|*} {0|{0|-1}} {2,{2|0}|-1} {1*|-1*}")
	good := 0
	for _, a := range names {
		for _, b := range names {
			good += wantBoth(t, a, b)
		}
	}
	if good < 2500 {
		t.Error("only", good, "expressions")
	}
}

// An author writes expressions and keeps the games of them by the document's words, without forms and limits.
type author struct {
	*gallery
	step int
}

func (a *author) roll(n int) int {
	a.step = a.step * 48271 % 2147483647
	return a.step / 64 % n
}

func (a *author) sum(depth int) (string, int) {
	text, value := a.term(depth)
	for range a.roll(3) {
		next, other := a.term(depth)
		sign := "+"
		if a.roll(2) == 0 {
			sign, other = "-", a.negative(other)
		}
		text, value = text+sign+next, a.canon(a.sumOf(value, other))
	}
	return text, value
}

func (a *author) sumOf(values ...int) int {
	total := a.enter(nil, nil)
	for _, value := range values {
		total = a.canon(a.catalog.sum(total, a.canon(value)))
	}
	return total
}

func (a *author) term(depth int) (string, int) {
	switch a.roll(6) {
	case 0:
		text, value := a.term(depth)
		if strings.Contains("0123456789", text[:1]) {
			text = "(" + text + ")"
		}
		return "-" + text, a.negative(value)
	case 1:
		k := 1 + a.roll(3)
		text, value := a.term(max(depth-1, 0))
		return fmt.Sprintf("%d.%s", k, text), a.sumOf(slices.Repeat(ints(value), k)...)
	}
	return a.unit(depth)
}

func (a *author) unit(depth int) (string, int) {
	if depth == 0 || a.roll(3) == 0 {
		return a.known()
	}
	if a.roll(2) == 0 {
		text, value := a.sum(depth - 1)
		return "(" + text + ")", value
	}
	var texts [2][]string
	var lists [2][]int
	for side := range lists {
		for range a.roll(3) {
			text, value := a.sum(depth - 1)
			texts[side], lists[side] = append(texts[side], text), append(lists[side], value)
		}
	}
	return "{" + strings.Join(texts[0], ",") + "|" + strings.Join(texts[1], ",") + "}", a.enter(lists[0], lists[1])
}

func (a *author) known() (string, int) {
	all := numbersBorn(3)
	d := all[a.roll(len(all))]
	if a.roll(6) == 0 && d.Top > 0 {
		text, _ := impl.DyadicText(d)
		return "~" + text, a.enter(ints(a.number(d)), ints(a.number(minus(d))))
	}
	x := nus{d: d}
	if a.roll(2) == 0 {
		x = nus{dyadic(0, 0), a.roll(5) - 2, a.roll(4)}
	} else if a.roll(3) == 0 {
		x.n, x.star = a.roll(3)-1, a.roll(3)
	}
	return x.name(), a.sumOf(a.number(x.d), a.ups(x.n), a.star(x.star))
}

func TestP9MixedExpressions(t *testing.T) {
	t.Parallel()
	good, bad := 0, 0
	for seed := range 12 {
		a := &author{gallery: &gallery{line: newLine()}, step: seed + 1}
		for range 25 {
			s, value := a.sum(2)
			if !wantReading(t, s) {
				bad++
				continue
			}
			good++
			f := said(t, s)
			if a.read(f) != a.canon(value) {
				t.Errorf("ReadGame(%q) = %v, which is not the canonical form", s, f)
			}
			if name, ok := impl.NameOf(f); ok {
				wantSaid(t, s, name)
			}
		}
	}
	if good < 240 || good < 5*bad {
		t.Error("too few expressions", good, bad)
	}
}

func TestP9SaysAlike(t *testing.T) {
	t.Parallel()
	for _, line := range []string{
		"0 {|} (0) {*|*} 1-1 *+* ^+v ^-^ {-1|1} 12.0 -(0) {|1} ~1+~1 *3-*3 1/2-1/2 {-1|} 2.~5 0+0",
		"1 {0|} {{|}|} 1/2+1/2 2-1 {0,*|} -(-1) --1 1+0 2.1/2 {1|0}+{1|0} (1) {0,0|} ^+1v",
		"^ {0|*} ^1 2.^+v -v 1^-1 {0|0+*} ^2-^ {0,*|0}+* 0^ --^ ^*+*",
		"^* {0,*|0} {0|*}+* *+^ ^+* ^1*1 ^*2-*3 -v* {*,0|0}",
		"~1 {1|-1} -~1 {1,0|-1} {1|-1,0} ~1+0 {--1|-(1)} 1.~1 3.~1",
		"{1|0} 1/2+~1/2 {1,1|0} -{0|-1} 1-{1|0} {2|1}-1 1+{0|-1}",
		"*2 *+*3 -*2 {0,*|0,*} 3.*2 {*,0|*,0}",
		"-1/2^-* -1/2^* ^-1/2* -(1/2v*) {-1|0}+^* *-1/2v",
		"{1|*} {1|0+*} -{*|-1}",
		"{1*|-1*} ~1+* *-~1",
	} {
		for _, s := range strings.Fields(line) {
			for _, other := range strings.Fields(line) {
				alike, ok := impl.SaysAlike(s, other)
				wantBool(t, fmt.Sprintf("SaysAlike(%q, %q)", s, other), alike, ok, true)
			}
			for _, other := range strings.Fields("2 -1 v *4 ~2 {2|0} {0|*}-*2 {1|*}+* ^2 {~2|-2} 1/2") {
				for _, pair := range [][2]string{{s, other}, {other, s}} {
					alike, ok := impl.SaysAlike(pair[0], pair[1])
					wantBool(t, fmt.Sprintf("SaysAlike(%q, %q)", pair[0], pair[1]), alike, ok, false)
				}
			}
			for _, other := range []string{"", "()", "1+", "-0", "^13", "{1|0", s + " ", " " + s, s + ")", "(" + s, s + "+", "7*15", "120", "~0", strings.Repeat("0+", 150) + "0"} {
				for _, pair := range [][2]string{{s, other}, {other, s}, {other, other}} {
					alike, ok := impl.SaysAlike(pair[0], pair[1])
					wantNoBool(t, fmt.Sprintf("SaysAlike(%q, %q)", pair[0], pair[1]), alike, ok)
				}
			}
		}
	}
	// Of texts that fail no two are alike, and neither is one with 0.
	for _, s := range []string{"", "x", "^0"} {
		for _, other := range []string{"", "y", "*0", "0"} {
			alike, ok := impl.SaysAlike(s, other)
			wantNoBool(t, fmt.Sprintf("SaysAlike(%q, %q)", s, other), alike, ok)
		}
	}
}

func starNames(before string, last int) string {
	var l []string
	for star := range last + 1 {
		l = append(l, nus{star: star}.name())
	}
	if before != "" {
		for star := range l {
			l[star] = before + strings.TrimPrefix(l[star], "0")
		}
	}
	return strings.Join(l, ",")
}

func TestP9BeyondTheRanges(t *testing.T) {
	t.Parallel()
	zero := []impl.Form{zeroGame()}
	for _, end := range []string{"^12*", "^12", "^12*15", "^12*2"} {
		f := said(t, end)
		name, low := end, end
		for n := mostUps + 1; n <= mostUps+10; n++ {
			f = made(t, zero, []impl.Form{f})
			name = "{0|" + name + "}"
			low = "{" + strings.ReplaceAll(low, "^", "v") + "|0}"
			wantName(t, name, f, name)
			wantName(t, low, negated(t, f), low)
			wantNoNus(t, name, f)
			wantNoNus(t, low, negated(t, f))
			wantSaid(t, name, name)
			wantSaid(t, "-"+name, low)
			wantSaid(t, "--"+name, name)
		}
	}
	wantAllSaid(t, `
		^12+^                {0|^12*}
		^12*+^               {0|^12}
		^7+^7                {0|{0|^12}}
		v12-^                {v12*|0}
		2.^8-^4              ^12
		^12+^-^              ^12
		6.^2                 ^12
		{0|^12*}-^           ^12
		{1|1^12*}            {1|1^12*}
		{-1/2v12|-1/2}       {-1/2v12|-1/2}
		{1|1^11*}            1^12`)
	for _, before := range []string{"", "1", "-1/2"} {
		stars := starNames(before, mostStar)
		name := "{" + stars + "|" + stars + "}"
		wantSaid(t, name, name)
		wantNoNus(t, name, said(t, name))
		again := strings.Replace(name, stars+"|", stars[strings.LastIndex(stars, ",")+1:]+","+stars+"|", 1)
		wantSaid(t, again, name)
	}
	for star := mostStar + 1; star <= mostOptions; star++ {
		f, name := nimber(star), fmt.Sprint("*", star)
		wantNoNus(t, name, f)
		wantNothingSaid(t, name)
		if stars := starNames("", mostStar); star == mostStar+1 {
			wantName(t, name, f, "{"+stars+"|"+stars+"}")
		} else {
			wantNoName(t, name, f)
		}
	}
}

func TestP9MostNodesAndOptions(t *testing.T) {
	t.Parallel()
	for n := 1; n <= mostOptions; n++ {
		if name := fmt.Sprintf("{%d|0}", n-1); n > 1 {
			wantName(t, fmt.Sprint("all to both sides ", n), withAllOptions(n, true, true), name)
		}
		wantName(t, fmt.Sprint("all to the left ", n), withAllOptions(n, true, false), fmt.Sprint(n))
		wantName(t, fmt.Sprint("all to the right ", n), withAllOptions(n, false, true), "-1")
	}
	for i := range mostNodes {
		if star := i % (mostOptions + 1); star <= mostStar {
			wantName(t, fmt.Sprint("tower ", i), towerOf(i+1), nus{star: star}.name())
			wantNus(t, fmt.Sprint("tower ", i), towerOf(i+1), nus{star: star})
		} else {
			wantNoNus(t, fmt.Sprint("tower ", i), towerOf(i+1))
		}
		wantNus(t, fmt.Sprint("ladder ", i), ladderOf(i+1), nus{star: i % 2})
		wantNus(t, fmt.Sprint("the integer ", i), integer(i), nus{d: dyadic(i, 0)})
		wantNus(t, fmt.Sprint("the integer ", -i), integer(-i), nus{d: dyadic(-i, 0)})
		wantName(t, fmt.Sprint("the integer ", -i), integer(-i), fmt.Sprint(-i))
	}
	for _, s := range []string{"^12*15", "1/2*9", "-3^4*2", "{1|0}", "~5", "{2,{2|0}|-1}", "0"} {
		f := said(t, s)
		left, right, _ := impl.OptionsOf(f)
		for low := -mostNodes; low < -6; low++ {
			if g, ok := impl.MakeForm(append(slices.Clone(left), integer(low)), right); ok && s != "0" {
				wantName(t, fmt.Sprintf("%s with %d on the left", s, low), g, s)
				if len(g.Nodes) < mostNodes-3 {
					break
				}
			}
		}
		for n := 7; len(left) < mostOptions; n++ {
			left = append(left, integer(-n))
		}
		if g, ok := impl.MakeForm(left, right); ok {
			wantName(t, s+" with most options", g, map[bool]string{true: "0", false: s}[s == "0"])
		}
	}
	for i, f := range append(append(longest(), wideSmall(t, 9)), tangles(mostNodes, 20)...) {
		canon := canonOf(t, f)
		name, ok := impl.NameOf(f)
		again, fine := impl.NameOf(canon)
		if name != again || ok != fine {
			t.Errorf("NameOf large game %d = %q, %v, and of its canonical form %q, %v", i, name, ok, again, fine)
		}
		if ok && openAtOnce(name) <= mostOpen {
			g, is := impl.ReadName(name)
			wantForm(t, fmt.Sprint("ReadName of large game ", i), g, is, canon)
		}
	}
}

// between puts the switches of 1 to last between the stars in the order of chapter 3, because a switch is born a day later than its number.
func between(last int) string {
	var names []string
	for day := range max(mostStar, last+1) + 1 {
		if day <= mostStar {
			names = append(names, nus{star: day}.name())
		}
		if 2 <= day && day <= last+1 {
			names = append(names, fmt.Sprint("~", day-1))
		}
	}
	return strings.Join(names, ",")
}

// wantWide checks a game whose name is told although its canonical form may have no valid form.
func wantWide(t *testing.T, f impl.Form, name string, fits bool) {
	t.Helper()
	canon, ok := impl.CanonOf(f)
	wantName(t, "the game "+name, f, name)
	wantNoNus(t, "the game "+name, f)
	if fits {
		wantForm(t, "CanonOf the game "+name, canon, ok, said(t, name))
		wantSaid(t, name, name)
		return
	}
	wantNoForm(t, "CanonOf the game "+name, canon, ok)
	wantNothingSaid(t, name)
	wantReading(t, name)
}

func TestP9MoreOptionsThanAFormMayHave(t *testing.T) {
	t.Parallel()
	for switches := 6; switches <= mostOptions; switches++ {
		f, _, _ := wide(t, mostStar+1, switches)
		g := negated(t, f)
		options, fits := between(switches), mostStar+1+switches <= mostOptions
		left, right := "{"+options+"|-25}", "{25|"+options+"}"
		above, below := []impl.Form{integer(26)}, []impl.Form{integer(-26)}
		wantWide(t, f, left, fits)
		wantWide(t, g, right, fits)
		wantWide(t, made(t, []impl.Form{f}, below), "{"+left+"|-26}", fits)
		wantWide(t, made(t, above, []impl.Form{f}), "{26|"+left+"}", fits)
		wantWide(t, made(t, []impl.Form{g}, below), "{"+right+"|-26}", fits)
		wantWide(t, made(t, above, []impl.Form{g}), "{26|"+right+"}", fits)
		wantWide(t, made(t, []impl.Form{integer(27)}, []impl.Form{made(t, above, []impl.Form{f})}), "{27|{26|"+left+"}}", fits)
		wantWide(t, made(t, []impl.Form{made(t, []impl.Form{g}, below)}, []impl.Form{integer(-27)}), "{{"+right+"|-26}|-27}", fits)
		// These have no such subposition in canonical form.
		wantName(t, "27 beside a wide game", made(t, []impl.Form{f, integer(26)}, nil), "27")
		wantName(t, "~26 beside a wide game", made(t, []impl.Form{f, integer(26)}, below), "~26")
		wantName(t, "0 beside a wide game", made(t, []impl.Form{made(t, below, []impl.Form{made(t, nil, []impl.Form{f})})}, nil), "0")
	}
	// Stars beyond *15 have names of their options, which are too long.
	f, _, _ := wide(t, 23, mostOptions)
	wantNoName(t, "a wide game", f)
	wantNoNus(t, "a wide game", f)
}

func TestP9KnownWideGames(t *testing.T) {
	t.Parallel()
	options := strings.Fields("0 * *2 *3 *4 *5 *6 *7 *8 *9 *10 *11 *12 *13 *14 *15 ~1 ~2 ~3 ~4 ~5 ~6 ~7 {10|{~8,~9|-12}}")
	f := made(t, saidAll(t, options...), saidAll(t, "-10"))
	if len(f.Nodes) != 50 {
		t.Error("the game has", len(f.Nodes), "nodes")
	}
	left := "{0,*,*2,~1,*3,~2,*4,~3,*5,~4,*6,~5,*7,~6,*8,~7,*9,~8,*10,~9,*11,*12,*13,*14,*15|-10}"
	right := "{10|0,*,*2,~1,*3,~2,*4,~3,*5,~4,*6,~5,*7,~6,*8,~7,*9,~8,*10,~9,*11,*12,*13,*14,*15}"
	wantWide(t, f, left, false)
	wantWide(t, negated(t, f), right, false)
	wantWide(t, made(t, saidAll(t, "5"), []impl.Form{f}), "{5|"+left+"}", false)
	wantWide(t, made(t, []impl.Form{negated(t, f)}, saidAll(t, "-5")), "{"+right+"|-5}", false)
	wantWide(t, made(t, saidAll(t, options[:23]...), saidAll(t, "-10")), "{0,*,*2,~1,*3,~2,*4,~3,*5,~4,*6,~5,*7,~6,*8,~7,*9,*10,*11,*12,*13,*14,*15|-10}", true)
	ups := "{0,*,*2,*3,*4,{^2|v2},*5,{^3|v3},*6,{^4|v4},*7,{^5|v5},*8,{^6|v6},*9,{^7|v7},*10,{^8|v8},*11,{^9|v9},*12,{^10|v10},*13,*14,*15|v12}"
	wantWide(t, wideSmall(t, 10), ups, false)
	wantNothingSaid(t, "{"+strings.Join(options, ",")+"|-10}")
	wantNothingSaid(t, "{"+strings.Join(options[:23], ",")+",~8,~9|-10}")
	wantSaid(t, "{"+strings.Join(options[:23], ",")+",~8|-10}", strings.Replace(left, ",~9", "", 1))
	wantSaid(t, "{26,{"+strings.Join(options, ",")+"|-10}|}", "27")
	wantSaid(t, "{26,{"+strings.Join(options, ",")+"|-10}|-26}", "~26")
}

func saidAll(t *testing.T, texts ...string) []impl.Form {
	t.Helper()
	var l []impl.Form
	for _, s := range texts {
		l = append(l, said(t, s))
	}
	return l
}

func allNegated(t *testing.T, l []impl.Form) []impl.Form {
	t.Helper()
	var all []impl.Form
	for _, f := range l {
		all = append(all, negated(t, f))
	}
	return all
}

// folded has no more left options than a valid form may have, because those that are too many stand behind reversible ones.
func folded(t *testing.T, left []impl.Form, low int) []impl.Form {
	t.Helper()
	if len(left) <= mostOptions {
		return left
	}
	kept := mostOptions - (len(left)-2)/(mostOptions-1)
	options := slices.Clone(left[:kept])
	for behind := range slices.Chunk(left[kept:], mostOptions) {
		reply := made(t, behind, []impl.Form{integer(low)})
		options = append(options, made(t, []impl.Form{integer(-low)}, []impl.Form{reply}))
	}
	return options
}

func overfull(t *testing.T, left []impl.Form, right []impl.Form, end int) impl.Form {
	t.Helper()
	return made(t, folded(t, left, -end), allNegated(t, folded(t, allNegated(t, right), -end)))
}

// hots has games around 0 of which none is comparable with another, first stars, and then four games of each size.
func hots(t *testing.T, stars int, sizes int) []impl.Form {
	t.Helper()
	var texts []string
	for n := range stars {
		texts = append(texts, nus{star: n}.name())
	}
	for n := 1; n <= sizes; n++ {
		for _, s := range []string{"~?", "{?*|-?*}", "{?*|-?}", "{?|-?*}"} {
			texts = append(texts, strings.ReplaceAll(s, "?", fmt.Sprint(n)))
		}
	}
	return saidAll(t, texts...)
}

func TestP9LongestNamesOfWideGames(t *testing.T) {
	t.Parallel()
	s, counts := newScribe(), map[string]int{}
	lengths := map[string]map[int]int{"left": {}, "right": {}, "subposition": {}}
	check := func(place string, f impl.Form) {
		name := s.name(s.canon(s.read(f)))
		if len(name) < mostName-3 {
			return
		}
		s.wantNamed(t, fmt.Sprintf("a game that is wide at the %s %.99s", place, name), f, counts)
		lengths[place][len(name)]++
	}
	for stars := 1; stars <= mostStar+1; stars++ {
		options := hots(t, stars, 9)
		for _, low := range strings.Fields("-10 -10* -10*2 -10^*2") {
			for count := mostOptions + 1; count <= len(options); count++ {
				f := overfull(t, options[:count], saidAll(t, low), 11)
				if length := len(s.name(s.canon(s.read(f)))); length < mostName-10 || length > mostName+3 {
					continue
				}
				check("left", f)
				check("right", negated(t, f))
				check("subposition", made(t, saidAll(t, "11"), []impl.Form{f}))
				check("subposition", made(t, []impl.Form{f}, saidAll(t, "-11")))
			}
		}
	}
	for place, all := range lengths {
		for _, length := range ints(mostName-2, mostName-1, mostName, mostName+1) {
			if all[length] == 0 {
				t.Error("no name of", length, "bytes of a game that is wide at the", place, all)
			}
		}
	}
	if counts["wide"] < 60 || counts["long"] < 30 || counts["wide"] < counts["{"] {
		t.Error("too few games of a kind", counts)
	}
}

func TestP9NamesOfWideGames(t *testing.T) {
	t.Parallel()
	s, counts := newScribe(), map[string]int{}
	name := func(label string, f impl.Form) {
		s.wantNamed(t, label, f, counts)
		s.wantNamed(t, "the negative of "+label, negated(t, f), counts)
	}
	for last := 7; last <= mostUps; last++ {
		f, label := wideSmall(t, last), fmt.Sprint("a wide game to ", last)
		name(label, f)
		name("a game above "+label, made(t, []impl.Form{f}, []impl.Form{zeroGame()}))
		name("-1 beside "+label, made(t, []impl.Form{f}, []impl.Form{integer(-1)}))
		name(label+" and 1", made(t, []impl.Form{f, integer(1)}, []impl.Form{integer(-1)}))
		name("a game above "+label+" and its negative", made(t, []impl.Form{f}, []impl.Form{negated(t, f)}))
	}
	for stars := range mostStar + 2 {
		for sizes := 3; sizes <= 10; sizes++ {
			if options := hots(t, stars, sizes); len(options) > mostOptions {
				name(fmt.Sprintf("a game of %d stars and %d sizes", stars, sizes), overfull(t, options, saidAll(t, "-12"), 12))
			}
		}
	}
	f, g := overfull(t, hots(t, 16, 3), saidAll(t, "-12"), 12), overfull(t, hots(t, 13, 3), saidAll(t, "-11"), 12)
	name("two wide games on one side", made(t, []impl.Form{made(t, saidAll(t, "16"), []impl.Form{f}), made(t, saidAll(t, "15"), []impl.Form{g})}, saidAll(t, "-17")))
	name("one wide game at two places", made(t, []impl.Form{made(t, saidAll(t, "15"), []impl.Form{f}), made(t, saidAll(t, "{16|14}"), []impl.Form{f})}, saidAll(t, "-17")))
	name("a wide game behind a wide game", overfull(t, append(hots(t, 16, 3), made(t, saidAll(t, "13"), []impl.Form{f})), saidAll(t, "-14"), 15))
	if counts["wide"] < 200 || counts["long"] < 20 || counts["wide"]-counts["long"] < 150 {
		t.Error("too few games of a kind", counts)
	}
}

// These are wide on none, one or both of their sides.
func TestP9GamesOfTwoWideSides(t *testing.T) {
	t.Parallel()
	s, counts := newScribe(), map[string]int{}
	left := hots(t, mostStar+1, 3)
	var right []impl.Form
	for _, option := range left {
		f, ok := impl.PlusNumber(option, dyadic(-6, 0))
		if !ok {
			t.Fatal("no sum of an option and a number")
		}
		right = append(right, f)
	}
	for lefts := 23; lefts <= 26; lefts++ {
		for rights := 23; rights <= 26; rights++ {
			f, label := overfull(t, left[:lefts], right[:rights], 16), fmt.Sprintf("a game of %d and %d options", lefts, rights)
			name := s.wantNamed(t, label, f, counts)
			s.wantNamed(t, "the negative of "+label, negated(t, f), counts)
			if len(name) > mostName || strings.Count(name, ",") != lefts+rights-2 {
				t.Errorf("the name of %s is %q", label, name)
			}
			_, ok := impl.CanonOf(f)
			wantBool(t, "CanonOf "+label, ok, true, lefts <= mostOptions && rights <= mostOptions)
		}
	}
	if counts["wide"] != 24 {
		t.Error("too few games of a kind", counts)
	}
}

func wantNothingOfNames(t *testing.T, name string, bad impl.Form) {
	t.Helper()
	wantNoNus(t, name, bad)
	wantNoName(t, name, bad)
}

func TestP9InvalidForms(t *testing.T) {
	t.Parallel()
	for name, bad := range invalidForms() {
		wantNothingOfNames(t, name, bad)
	}
	for _, d := range invalidDyadics() {
		wantNoNusForm(t, d, 0, 0)
		wantNoNusForm(t, d, 1, 1)
	}
}

func TestP9NilAndEmpty(t *testing.T) {
	t.Parallel()
	for _, zero := range []impl.Form{formOf(node(nil, nil)), formOf(node(ints(), ints())), formOf(node(nil, ints())), formOf(node(ints(), nil))} {
		wantName(t, "0", zero, "0")
		wantNus(t, "0", zero, nus{})
		wantName(t, "1", formOf(zero.Nodes[0], node(ints(0), ints())), "1")
		wantName(t, "-1", formOf(zero.Nodes[0], node(ints(), ints(0))), "-1")
		wantName(t, "*", formOf(zero.Nodes[0], node(ints(0), ints(0))), "*")
		wantName(t, "{*|}", formOf(zero.Nodes[0], node(ints(0), ints(0)), node(ints(1), ints())), "0")
		wantName(t, "{1|0}", formOf(zero.Nodes[0], node(ints(0), ints()), node(ints(1), ints(0))), "{1|0}")
	}
	for _, none := range []impl.Form{{}, {Nodes: []impl.Node{}}, {Nodes: make([]impl.Node, 0, 3)}} {
		wantNothingOfNames(t, "no nodes", none)
	}
	wantForm(t, "{|}", said(t, "{|}"), true, zeroGame())
	f, ok := impl.NusForm(impl.Dyadic{}, 0, 0)
	wantForm(t, "NusForm of nothing", f, ok, zeroGame())
}

// resultsOfNames has what each function of the chapter returns for the arguments, and all that is no form as one text.
func resultsOfNames(f impl.Form, x nus, s string, u string) (map[string]impl.Form, string) {
	forms := map[string]impl.Form{}
	var all [3]bool
	forms["NusForm"], all[0] = impl.NusForm(x.d, x.n, x.star)
	forms["ReadName"], all[1] = impl.ReadName(s)
	forms["ReadGame"], all[2] = impl.ReadGame(s)
	d, n, star, is := impl.NusOf(f)
	name, ok := impl.NameOf(f)
	alike, fine := impl.SaysAlike(s, u)
	return forms, fmt.Sprint(all, d, n, star, is, name, ok, alike, fine)
}

func argumentsOfNames(i int) (nus, string, string) {
	texts := append(phrases(), "", "60*", "{1|", "^13", "{0|*}", "2.^-^")
	return nus{dyadic(i*7%9-4, 0), i*5%27 - 13, i * 3 % 17}, texts[i%len(texts)], texts[i*7%len(texts)]
}

func wantResultsOfNames(t *testing.T, name string, forms map[string]impl.Form, rest string, f impl.Form, i int) {
	t.Helper()
	x, s, u := argumentsOfNames(i)
	plain, plainRest := resultsOfNames(copied(f), x, s, u)
	for function, want := range plain {
		if !sameNodes(forms[function], want) {
			t.Errorf("%s with %s = %v, want %v", function, name, forms[function], want)
		}
	}
	if rest != plainRest {
		t.Errorf("the results for %s are %s, want %s", name, rest, plainRest)
	}
}

func gamesOfNames(t *testing.T) []impl.Form {
	t.Helper()
	l := append(append(plainForms(plainDay2()), sample()...), crowded(t, 40)...)
	for _, s := range phrases() {
		l = append(l, said(t, s))
	}
	f := overfull(t, hots(t, mostStar+1, 3), saidAll(t, "-5"), 6)
	return append(l, f, negated(t, f), made(t, saidAll(t, "6"), []impl.Form{f}))
}

func TestP30NamesModifyNoArgument(t *testing.T) {
	t.Parallel()
	for i, want := range gamesOfNames(t) {
		f := withSpare(want)
		x, s, u := argumentsOfNames(i)
		forms, rest := resultsOfNames(f, x, s, u)
		wantResultsOfNames(t, fmt.Sprint("game ", i, " with spare elements"), forms, rest, want, i)
		wantSpare(t, "a function of names", f, want)
	}
}

func TestP30NamesShareNoMemory(t *testing.T) {
	t.Parallel()
	for i, want := range gamesOfNames(t) {
		f := copied(want)
		x, s, u := argumentsOfNames(i)
		forms, rest := resultsOfNames(f, x, s, u)
		spoil(f)
		wantResultsOfNames(t, fmt.Sprint("game ", i, " after it was changed"), forms, rest, want, i)
		f = copied(want)
		forms, _ = resultsOfNames(f, x, s, u)
		again, _ := resultsOfNames(f, x, s, u)
		for _, result := range forms {
			spoil(result)
		}
		wantForm(t, "the game after the results were changed", f, true, want)
		wantResultsOfNames(t, fmt.Sprint("game ", i, " after other results were changed"), again, rest, want, i)
		for function, result := range again {
			wantOwnLists(t, function, result)
		}
	}
}

func TestP30NamesReturnForAll(t *testing.T) {
	t.Parallel()
	values := append(extremeInts(), -17, -13, -12, -1, 0, 1, 12, 13, 15, 16)
	var strange []nus
	for i, top := range append(extremeInts(), 0, 1, -1, 2, 119, -120, 1000001) {
		for k, pow := range append(extremeInts(), 0, 1, -1, 16, 17, 63, 64) {
			strange = append(strange, nus{dyadic(top, pow), values[i%len(values)], values[k%len(values)]})
		}
	}
	for i, f := range append(strangeForms(), nimber(1)) {
		func() {
			defer noPanic(t, fmt.Sprint(f))
			_, s, u := argumentsOfNames(i)
			resultsOfNames(f, strange[i%len(strange)], s, u)
		}()
	}
	for i, n := range values {
		for k, star := range values {
			func() {
				defer noPanic(t, fmt.Sprint(n, star))
				x := nus{strange[(i*5+k)%len(strange)].d, n, star}
				resultsOfNames(impl.Form{}, x, everyByte()[k:], everyByte()[:i])
			}()
		}
	}
	step := 1
	for range 20000 {
		var text []byte
		for range 1 + step/64%40 {
			step = step * 48271 % 2147483647
			text = append(text, "0123456789.+-^v*~(){}|,/ x\xff"[step/64%27])
		}
		func() {
			defer noPanic(t, string(text))
			impl.ReadGame(string(text))
		}()
	}
}

func TestP30NamesOfLargestGames(t *testing.T) {
	t.Parallel()
	forms := append(longest(), ladderOf(mostNodes-1), wideSmall(t, mostUps))
	for seed := range 20 {
		forms = append(forms, tangleOf(mostNodes, mostOptions+1, seed+1), tangleOf(mostNodes, 2+seed, seed+1), tallOf(60, 1+seed, seed+1))
	}
	options := hots(t, mostStar+1, 5)
	for high := 6; high <= 12; high++ {
		f := overfull(t, options, []impl.Form{integer(-high)}, high)
		forms, options = append(forms, f, negated(t, f)), append(options, made(t, []impl.Form{integer(high)}, []impl.Form{f}))
	}
	inTime(t, "the names of the largest games", func() {
		for i, f := range forms {
			if !impl.GoodForm(f) {
				t.Errorf("a game of %d nodes is invalid", len(f.Nodes))
			}
			x, s, u := argumentsOfNames(i)
			resultsOfNames(f, x, s, u)
		}
	})
	// Each has almost as many bytes as a text may have.
	inTime(t, "the longest expressions", func() {
		for _, part := range strings.Fields("12.*10+ 12.^*3- 12.~1+ 8.{1|*}+ 6.(^5*7)- 11*7-11*7+ {7,6,5,4|*}- *15+*10+ v12*6+^12*6+ {0|*}+{*|0}+ ~1+~2- {59|58}- 12. - 2.- --^- 1/2+1/4- {119|1}+ {-59|59,58}+") {
			for _, end := range []string{"0", "*2", "(1/2^)", "{1|{0|-1}}"} {
				impl.ReadGame(strings.Repeat(part, (mostName-len(end))/len(part)) + end)
			}
		}
		for _, part := range strings.Fields("119, *15, {0|*}, ^12*15, {1|0},~2, {*|*},{-1|1},") {
			s := strings.Repeat(part, (mostName-4)/len(part))
			impl.ReadGame("{" + s + "0|}")
			impl.ReadGame("{|" + s + "0}")
		}
	})
}

func TestP30NamesKeepNoState(t *testing.T) {
	t.Parallel()
	for range 2 {
		wantSaid(t, "2.^", "^2")
		wantNothingSaid(t, "(((^")
		wantSaid(t, "((^))", "^")
		wantNothingSaid(t, strings.Repeat("(", 41))
		wantSaid(t, "{0|*}+*", "^*")
		wantNoName(t, "no game", impl.Form{})
		wantName(t, "{1|-1}", short(t, "{1|-1}"), "~1")
		wantNoName(t, "a long game", nimber(17))
		wantName(t, "^", short(t, "^"), "^")
		wantNoNus(t, "{1|-1}", short(t, "{1|-1}"))
		wantNus(t, "1*", short(t, "{1|1}"), nus{dyadic(1, 0), 0, 1})
		wantNoNusForm(t, dyadic(7, 0), 0, 15)
	}
}
