package tests

import (
	"fmt"
	"slices"
	"testing"
	"time"

	"loop.example/g00868/impl"
)

const mostRanked = 24

// plainOrder fills tables by the document's definition of >= from the first nodes on, so it needs no recursion and no search.
func plainOrder(a impl.Form, b impl.Form) (bool, bool) {
	atLeast, atMost := make([][]bool, len(a.Nodes)), make([][]bool, len(a.Nodes))
	for i, m := range a.Nodes {
		atLeast[i], atMost[i] = make([]bool, len(b.Nodes)), make([]bool, len(b.Nodes))
		for k, n := range b.Nodes {
			atLeast[i][k], atMost[i][k] = true, true
			for _, r := range m.Right {
				atLeast[i][k] = atLeast[i][k] && !atMost[r][k]
			}
			for _, l := range n.Left {
				atLeast[i][k] = atLeast[i][k] && !atMost[i][l]
			}
			for _, r := range n.Right {
				atMost[i][k] = atMost[i][k] && !atLeast[i][r]
			}
			for _, l := range m.Left {
				atMost[i][k] = atMost[i][k] && !atLeast[l][k]
			}
		}
	}
	return atLeast[len(a.Nodes)-1][len(b.Nodes)-1], atMost[len(a.Nodes)-1][len(b.Nodes)-1]
}

func plainClass(atLeast bool, atMost bool) int {
	switch {
	case atLeast && atMost:
		return impl.OutSecond
	case atLeast:
		return impl.OutLeft
	case atMost:
		return impl.OutRight
	}
	return impl.OutFirst
}

// plainPlay tries all lines of play.
func plainPlay(g *plainGame, left bool) bool {
	options := g.right
	if left {
		options = g.left
	}
	return slices.ContainsFunc(options, func(option *plainGame) bool { return !plainPlay(option, !left) })
}

func plainOutcome(g *plainGame) int {
	return plainClass(!plainPlay(g, false), !plainPlay(g, true))
}

func plainMinus(a *plainGame, b *plainGame) *plainGame {
	var left, right []*plainGame
	for _, l := range a.left {
		left = append(left, plainMinus(l, b))
	}
	for _, r := range b.right {
		left = append(left, plainMinus(a, r))
	}
	for _, r := range a.right {
		right = append(right, plainMinus(r, b))
	}
	for _, l := range b.left {
		right = append(right, plainMinus(a, l))
	}
	return plainOf(left, right)
}

func plainWinningMoves(g *plainGame, left bool) []int {
	options := g.right
	if left {
		options = g.left
	}
	var moves []int
	for i, option := range options {
		if !plainPlay(option, !left) {
			moves = append(moves, i)
		}
	}
	return moves
}

func opposite(class int) int {
	switch class {
	case impl.OutLeft:
		return impl.OutRight
	case impl.OutRight:
		return impl.OutLeft
	}
	return class
}

func wantBool(t *testing.T, name string, got bool, ok bool, want bool) {
	t.Helper()
	if got != want || !ok {
		t.Errorf("%s = %v, %v, want %v, true", name, got, ok, want)
	}
}

func wantNoBool(t *testing.T, name string, got bool, ok bool) {
	t.Helper()
	if got || ok {
		t.Errorf("%s = %v, %v, want false, false", name, got, ok)
	}
}

func wantInts(t *testing.T, name string, got []int, ok bool, want ...int) {
	t.Helper()
	if !slices.Equal(got, want) || !ok {
		t.Errorf("%s = %v, %v, want %v, true", name, got, ok, want)
	}
}

func wantNoInts(t *testing.T, name string, got []int, ok bool) {
	t.Helper()
	if len(got) != 0 || ok {
		t.Errorf("%s = %v, %v, want an empty slice and false", name, got, ok)
	}
}

func wantOutcome(t *testing.T, name string, f impl.Form, want int) {
	t.Helper()
	if n, ok := impl.OutcomeOf(f); n != want || !ok {
		t.Errorf("OutcomeOf(%s) = %d, %v, want %d, true", name, n, ok, want)
	}
	win, ok := impl.WinsMoving(f, true)
	wantBool(t, "WinsMoving of Left in "+name, win, ok, want == impl.OutLeft || want == impl.OutFirst)
	win, ok = impl.WinsMoving(f, false)
	wantBool(t, "WinsMoving of Right in "+name, win, ok, want == impl.OutRight || want == impl.OutFirst)
}

func wantOneOrder(t *testing.T, name string, a impl.Form, b impl.Form, want int) {
	t.Helper()
	if n, ok := impl.CompareForms(a, b); n != want || !ok {
		t.Errorf("CompareForms(%s) = %d, %v, want %d, true", name, n, ok, want)
	}
	least, ok := impl.AtLeast(a, b)
	wantBool(t, "AtLeast("+name+")", least, ok, want == impl.OutLeft || want == impl.OutSecond)
	same, ok := impl.EqualForms(a, b)
	wantBool(t, "EqualForms("+name+")", same, ok, want == impl.OutSecond)
}

func wantOrder(t *testing.T, name string, a impl.Form, b impl.Form, want int) {
	t.Helper()
	wantOneOrder(t, name, a, b, want)
	wantOneOrder(t, name+" in reverse", b, a, opposite(want))
}

func wantGreatest(t *testing.T, name string, l []impl.Form, want ...int) {
	t.Helper()
	got, ok := impl.GreatestOf(l)
	wantInts(t, "GreatestOf "+name, got, ok, want...)
}

func wantNoGreatest(t *testing.T, name string, l []impl.Form) {
	t.Helper()
	got, ok := impl.GreatestOf(l)
	wantNoInts(t, "GreatestOf "+name, got, ok)
}

// inTime fails a function that would only return after a search of all lines of play.
func inTime(t *testing.T, name string, work func()) {
	t.Helper()
	done := make(chan struct{})
	go func() {
		defer close(done)
		work()
	}()
	select {
	case <-done:
	case <-time.After(time.Minute):
		t.Fatal(name, "does not return in time")
	}
}

func mirrored(f impl.Form) impl.Form {
	var m impl.Form
	for _, n := range f.Nodes {
		m.Nodes = append(m.Nodes, node(n.Right, n.Left))
	}
	return m
}

// minusChain is the game of the integer 1-nodes.
func minusChain(nodes int) impl.Form {
	return mirrored(chainOf(nodes))
}

// nimber is for n to 24.
func nimber(n int) impl.Form {
	return towerOf(n + 1)
}

// tangleOf is deep, because each node has the one before it as an option, and takes its other options by a fixed rule.
func tangleOf(nodes int, options int, seed int) impl.Form {
	f := zeroGame()
	step := seed
	for i := 1; i < nodes; i++ {
		var lists [2][]int
		for side := range lists {
			for range options - 1 {
				step = step * 48271 % 2147483647
				if step/64%4 > 0 {
					lists[side] = append(lists[side], step/256%i)
				}
			}
		}
		step = step * 48271 % 2147483647
		lists[step/64%2] = append(lists[step/64%2], i-1)
		for side := range lists {
			slices.Sort(lists[side])
			lists[side] = slices.Compact(lists[side])
		}
		f.Nodes = append(f.Nodes, node(lists[0], lists[1]))
	}
	return f
}

func tangles(nodes int, count int) []impl.Form {
	var l []impl.Form
	for seed := range count {
		l = append(l, tangleOf(nodes, []int{2, 3, 5, 9, mostOptions}[seed%5], 1000+7*seed))
	}
	return l
}

func TestP4Constants(t *testing.T) {
	if got := ints(impl.OutLeft, impl.OutRight, impl.OutFirst, impl.OutSecond); !slices.Equal(got, ints(1, 2, 3, 4)) {
		t.Error("constants", got)
	}
}

func TestP4KnownMoves(t *testing.T) {
	for _, c := range []struct {
		text        string
		outcome     int
		left, right []int
	}{
		{"{|}", impl.OutSecond, nil, nil},
		{"{{|}|}", impl.OutLeft, ints(0), nil},
		{"{|{|}}", impl.OutRight, nil, ints(0)},
		{"{{|}|{|}}", impl.OutFirst, ints(0), ints(0)},
		{"{{{|}|}|}", impl.OutLeft, ints(0), nil},
		{"{|{|{|}}}", impl.OutRight, nil, ints(0)},
		// Options of one player only, none of which wins.
		{"{{{|}|{|}}|}", impl.OutSecond, nil, nil},
		{"{|{{|}|{|}}}", impl.OutSecond, nil, nil},
		{"{{|{|}}|}", impl.OutSecond, nil, nil},
		{"{|{{|}|}}", impl.OutSecond, nil, nil},
		{"{{|{|}},{{|}|{|}}|}", impl.OutSecond, nil, nil},
		{"{|{{|}|},{{|}|{|}}}", impl.OutSecond, nil, nil},
		// Options of both players, none of which wins.
		{"{{{|}|{|}}|{{|}|{|}}}", impl.OutSecond, nil, nil},
		{"{{|{|}}|{{|}|}}", impl.OutSecond, nil, nil},
		{"{{|}|{{|}|{|}}}", impl.OutLeft, ints(0), nil},
		{"{{{|}|{|}}|{|}}", impl.OutRight, nil, ints(0)},
		{"{{|},{{|}|{|}}|{|}}", impl.OutFirst, ints(0), ints(0)},
		{"{{|},{{|}|{|}}|{|},{{|}|{|}}}", impl.OutFirst, ints(0), ints(0)},
		{"{{{|}|}|{|{|}}}", impl.OutFirst, ints(0), ints(0)},
		{"{{|},{{|}|}|{|{|}}}", impl.OutFirst, ints(0, 1), ints(0)},
		{"{{|{|}},{{|}|},{{|}|{|}}|}", impl.OutLeft, ints(1), nil},
		{"{|{|{|}},{{|}|},{{|}|{|}}}", impl.OutRight, nil, ints(0)},
		{"{{|{|}},{{|}|},{{|}|{|}}|{{|}|},{{|}|{|}}}", impl.OutLeft, ints(1), nil},
		{"{{|},{|{|}},{{|}|},{{|}|{|}}|{|},{|{|}},{{|}|},{{|}|{|}}}", impl.OutFirst, ints(0, 2), ints(0, 1)},
	} {
		f := read(t, c.text)
		wantOutcome(t, c.text, f, c.outcome)
		moves, ok := impl.WinningMoves(f, true)
		wantInts(t, "WinningMoves of Left in "+c.text, moves, ok, c.left...)
		moves, ok = impl.WinningMoves(f, false)
		wantInts(t, "WinningMoves of Right in "+c.text, moves, ok, c.right...)
	}
}

// equalGames has games of one value in each row.
func equalGames(t *testing.T) [][]impl.Form {
	t.Helper()
	var rows [][]impl.Form
	for _, row := range [][]string{
		{"{|}", "{{{|}|{|}}|{{|}|{|}}}", "{{|{|}}|{{|}|}}", "{|{{|}|}}", "{{|{|}}|}", "{{{|}|{|}}|}", "{|{{|}|{|}}}"},
		{"{{|}|}", "{{|},{|{|}}|}", "{{|}|{{{|}|}|}}", "{{|},{{|}|{|}}|}"},
		{"{{{|}|}|}", "{{|},{{|}|}|}", "{{|{|}},{{|}|}|}", "{{{|}|}|{{{{|}|}|}|}}"},
		{"{{|}|{|}}", "{{|},{|{|}}|{|},{{|}|}}", "{{|}|{|},{{|}|}}", "{{|},{|{|}}|{|}}", "{{{|}|{{|}|{|}}}|{{{|}|{|}}|{|}}}"},
		{"{{|}|{{|}|{|}}}", "{{|},{|{|}}|{{|}|{|}}}", "{{|}|{{|}|},{{|}|{|}}}"},
		{"{{{|}|}|{|{|}}}", "{{|},{{|}|}|{|{|}}}", "{{{|}|}|{|},{|{|}}}"},
		{"{{|}|{{|}|}}", "{{|},{|{|}}|{{|}|}}", "{{|}|{{|}|},{{{|}|}|}}"},
	} {
		rows = append(rows, reads(t, row...))
	}
	return rows
}

func TestP4KnownOrder(t *testing.T) {
	const l, r, first, same = impl.OutLeft, impl.OutRight, impl.OutFirst, impl.OutSecond
	games := equalGames(t)
	names := []string{"0", "1", "2", "*", "up", "±1", "1/2"}
	for i, row := range [][]int{
		{same, r, r, first, r, first, r},
		{l, same, r, l, l, first, l},
		{l, l, same, l, l, l, l},
		{first, r, r, same, first, first, r},
		{l, r, r, first, same, first, r},
		{first, first, r, first, first, same, first},
		{l, r, r, l, l, first, same},
	} {
		for k, want := range row {
			for m, a := range games[i] {
				for n, b := range games[k] {
					wantOrder(t, fmt.Sprintf("%s (%d), %s (%d)", names[i], m, names[k], n), a, b, want)
				}
			}
		}
	}
}

func TestP4ConfusedGames(t *testing.T) {
	star, up, doubled := read(t, "{{|}|{|}}"), read(t, "{{|}|{{|}|{|}}}"), nimber(2)
	for name, pair := range map[string][2]impl.Form{
		"* and 0":     {star, zeroGame()},
		"up and *":    {up, star},
		"down and *":  {mirrored(up), star},
		"*2 and 0":    {doubled, zeroGame()},
		"*2 and *":    {doubled, star},
		"*2 and *3":   {doubled, nimber(3)},
		"*2 and *23":  {doubled, nimber(23)},
		"*24 and *23": {nimber(24), nimber(23)},
		"*24 and 0":   {nimber(24), zeroGame()},
	} {
		wantOrder(t, name, pair[0], pair[1], impl.OutFirst)
	}
	wantOrder(t, "up and *2", up, doubled, impl.OutLeft)
	wantOrder(t, "down and *2", mirrored(up), doubled, impl.OutRight)
	wantOrder(t, "{1|*} and 0", made(t, []impl.Form{chainOf(2)}, []impl.Form{star}), zeroGame(), impl.OutLeft)
}

// The switch {high|low} is confused with the integers from low to high, greater than those below and less than those above.
func TestP4SwitchesAgainstNumbers(t *testing.T) {
	for _, ends := range [][2]int{{1, -1}, {2, -2}, {5, 2}, {0, -4}, {3, 0}, {40, -40}} {
		hot := made(t, []impl.Form{integer(ends[0])}, []impl.Form{integer(ends[1])})
		for n := ends[1] - 3; n <= ends[0]+3; n++ {
			want := impl.OutFirst
			if n < ends[1] {
				want = impl.OutLeft
			} else if n > ends[0] {
				want = impl.OutRight
			}
			wantOrder(t, fmt.Sprint(ends, n), hot, integer(n), want)
		}
	}
}

func integer(n int) impl.Form {
	if n < 0 {
		return minusChain(1 - n)
	}
	return chainOf(n + 1)
}

func TestP4OrderOfNumbers(t *testing.T) {
	for n := -6; n <= 6; n++ {
		for k := -6; k <= 6; k++ {
			want := impl.OutSecond
			if n > k {
				want = impl.OutLeft
			} else if n < k {
				want = impl.OutRight
			}
			wantOrder(t, fmt.Sprint(n, k), integer(n), integer(k), want)
			if n < k {
				half := made(t, []impl.Form{integer(n)}, []impl.Form{integer(k)})
				wantOrder(t, fmt.Sprintf("{%d|%d}, %d", n, k, n), half, integer(n), impl.OutLeft)
				wantOrder(t, fmt.Sprintf("{%d|%d}, %d", n, k, k), half, integer(k), impl.OutRight)
			}
		}
	}
}

func TestP4SameArgumentTwice(t *testing.T) {
	forms := append(plainForms(plainDay2()), zeroGame(), chainOf(mostNodes), minusChain(mostNodes), towerOf(mostNodes), ladderOf(mostNodes), withAllOptions(mostOptions, true, false))
	for i, f := range append(forms, tangles(mostNodes, 15)...) {
		wantOrder(t, fmt.Sprint("game ", i, " twice"), f, f, impl.OutSecond)
		wantOrder(t, fmt.Sprint("game ", i, " and its copy"), f, copied(f), impl.OutSecond)
		wantGreatest(t, fmt.Sprint("of game ", i, " twice"), []impl.Form{f, f}, 0)
	}
}

func orderOfAll(t *testing.T, l []impl.Form) [][]bool {
	t.Helper()
	var table [][]bool
	for i, a := range l {
		table = append(table, nil)
		for k, b := range l {
			least, ok := impl.AtLeast(a, b)
			if !ok {
				t.Fatalf("AtLeast of games %d and %d fails", i, k)
			}
			table[i] = append(table[i], least)
		}
	}
	return table
}

func TestP4PartialOrder(t *testing.T) {
	forms := plainForms(plainDay2())
	atLeast := orderOfAll(t, forms)
	values := 0
	for i := range forms {
		if !atLeast[i][i] {
			t.Errorf("game %d is not at least itself", i)
		}
		if !slices.ContainsFunc(numbersTo(i), func(k int) bool { return atLeast[i][k] && atLeast[k][i] }) {
			values++
		}
		for k := range forms {
			if !atLeast[i][k] {
				continue
			}
			for m := range forms {
				if atLeast[k][m] && !atLeast[i][m] {
					t.Fatalf("game %d >= game %d >= game %d, but not the first >= the last", i, k, m)
				}
			}
		}
	}
	if values != 22 {
		t.Errorf("the games of day 2 have %d values, want 22", values)
	}
}

func numbersTo(n int) []int {
	var l []int
	for i := range n {
		l = append(l, i)
	}
	return l
}

func TestP4OrderOfDay2(t *testing.T) {
	forms := plainForms(plainDay2())
	for i, a := range forms {
		for k, b := range forms[:i+1] {
			least, most := plainOrder(a, b)
			wantOrder(t, fmt.Sprintf("games %d, %d", i, k), a, b, plainClass(least, most))
		}
	}
}

func TestP4OrderAgreesWithPlayOfTheDifference(t *testing.T) {
	games := plainDay2()
	seen := map[int]int{}
	for i := 0; i < len(games); i += 7 {
		for k := 0; k < len(games); k += 5 {
			difference := plainMinus(games[i], games[k])
			want := plainOutcome(difference)
			seen[want]++
			wantOneOrder(t, fmt.Sprintf("games %d, %d", i, k), plainForm(games[i]), plainForm(games[k]), want)
			wantOutcome(t, fmt.Sprintf("the difference of games %d, %d", i, k), plainForm(difference), want)
		}
	}
	if len(seen) != 4 {
		t.Error("not all outcomes", seen)
	}
}

func TestP4OutcomesAgreeWithPlay(t *testing.T) {
	seen := map[int]int{}
	for i, g := range append(plainDay2(), plainMixed(200)...) {
		f := plainForm(g)
		if len(f.Nodes) > mostNodes {
			continue
		}
		want := plainOutcome(g)
		seen[want]++
		wantOutcome(t, fmt.Sprint("game ", i), f, want)
		wantOrder(t, fmt.Sprint("game ", i, " and 0"), f, zeroGame(), want)
		for _, left := range []bool{true, false} {
			moves, ok := impl.WinningMoves(f, left)
			wantInts(t, fmt.Sprintf("WinningMoves of game %d, %v", i, left), moves, ok, plainWinningMoves(g, left)...)
		}
	}
	if len(seen) != 4 {
		t.Error("not all outcomes", seen)
	}
}

// winsByTheMoves has the player who is told to win play each winning move, and the opponent play all moves.
func winsByTheMoves(f impl.Form, left bool) bool {
	moves, ok := impl.WinningMoves(f, left)
	mine, others, fine := impl.OptionsOf(f)
	if !left {
		mine = others
	}
	for _, move := range moves {
		if !losesAgainstAll(mine[move], !left) {
			return false
		}
	}
	return ok && fine && len(moves) > 0
}

func losesAgainstAll(f impl.Form, left bool) bool {
	replies, others, ok := impl.OptionsOf(f)
	if !left {
		replies = others
	}
	for _, reply := range replies {
		if !winsByTheMoves(reply, !left) {
			return false
		}
	}
	return ok
}

func TestP4TheMovesWin(t *testing.T) {
	for i, g := range append(plainDay2(), plainMixed(40)...) {
		f := plainForm(g)
		if len(f.Nodes) > mostNodes {
			continue
		}
		for _, left := range []bool{true, false} {
			win, ok := impl.WinsMoving(f, left)
			if !ok || win && !winsByTheMoves(f, left) || !win && !losesAgainstAll(f, left) {
				t.Errorf("in game %d the player (left: %v) told to win does not, or the other does", i, left)
			}
		}
	}
}

func TestP4OrderOfMixedGames(t *testing.T) {
	var forms []impl.Form
	for _, g := range plainMixed(90) {
		if f := plainForm(g); len(f.Nodes) <= mostNodes {
			forms = append(forms, f)
		}
	}
	forms = append(forms, tangles(30, 10)...)
	seen := map[int]int{}
	for i, a := range forms {
		for k, b := range forms[:i] {
			class := plainClass(plainOrder(a, b))
			seen[class]++
			wantOrder(t, fmt.Sprintf("mixed games %d, %d", i, k), a, b, class)
		}
	}
	if len(seen) != 4 {
		t.Error("not all classes", seen)
	}
}

func TestP4LongestGames(t *testing.T) {
	longest := chainOf(mostNodes)
	inTime(t, "the order of long games", func() {
		wantOutcome(t, "119", longest, impl.OutLeft)
		wantOutcome(t, "-119", mirrored(longest), impl.OutRight)
		wantOrder(t, "119, -119", longest, mirrored(longest), impl.OutLeft)
		for nodes := 1; nodes < mostNodes; nodes++ {
			wantOrder(t, fmt.Sprint("119, ", nodes-1), longest, chainOf(nodes), impl.OutLeft)
			wantOrder(t, fmt.Sprint("-119, ", 1-nodes), mirrored(longest), minusChain(nodes), impl.OutRight)
			wantOrder(t, fmt.Sprint("tower, ", nodes-1), towerOf(mostNodes), chainOf(nodes), towerAgainst(nodes))
		}
		moves, ok := impl.WinningMoves(longest, true)
		wantInts(t, "WinningMoves of Left in 119", moves, ok, 0)
		moves, ok = impl.WinningMoves(longest, false)
		wantInts(t, "WinningMoves of Right in 119", moves, ok)
	})
	for _, f := range []impl.Form{chainOf(mostNodes + 1), minusChain(mostNodes + 1), towerOf(mostNodes + 1), ladderOf(mostNodes + 1)} {
		wantNothingOfOrder(t, "a game of too many nodes", f)
	}
}

// A nimber other than 0 is confused with 0 and less than each positive integer.
func towerAgainst(nodes int) int {
	if nodes == 1 {
		return impl.OutFirst
	}
	return impl.OutRight
}

// Node i of a tower is the nimber i mod 25, and node i of a ladder the nimber i mod 2.
func TestP4SharedSubpositions(t *testing.T) {
	inTime(t, "the order of games of many shared subpositions", func() {
		for nodes := 1; nodes <= mostNodes; nodes++ {
			want := impl.OutFirst
			if nodes%2 == 1 {
				want = impl.OutSecond
			}
			wantOutcome(t, fmt.Sprint("ladder of ", nodes), ladderOf(nodes), want)
			wantOrder(t, fmt.Sprintf("ladders of %d, %d", nodes, 119), ladderOf(nodes), ladderOf(119), want)
		}
		big := towerOf(mostNodes)
		for i := range mostNodes {
			want := impl.OutFirst
			if (mostNodes-1-i)%25 == 0 {
				want = impl.OutSecond
			}
			wantOrder(t, fmt.Sprintf("towers of %d, %d", mostNodes, i+1), big, towerOf(i+1), want)
			moves, ok := impl.WinningMoves(towerOf(i+1), i%2 == 0)
			wantInts(t, fmt.Sprint("WinningMoves of a tower of ", i+1), moves, ok, towerMoves(i)...)
		}
	})
}

// towerMoves has the index of the option that is 0, where the last of the options of node i is node i-1.
func towerMoves(i int) []int {
	if i%25 == 0 {
		return nil
	}
	return ints(min(i, mostOptions) - i%25)
}

func TestP4DeepGames(t *testing.T) {
	forms := append(tangles(mostNodes, 10), towerOf(mostNodes), ladderOf(mostNodes), chainOf(mostNodes), withAllOptions(mostOptions, true, true))
	seen := map[int]int{}
	inTime(t, "the order of deep games", func() {
		for i, a := range forms {
			wantOutcome(t, fmt.Sprint("deep game ", i), a, plainClass(plainOrder(a, zeroGame())))
			wantMovesOfPlainOrder(t, a)
			for k, b := range forms[:i] {
				class := plainClass(plainOrder(a, b))
				seen[class]++
				wantOrder(t, fmt.Sprintf("deep games %d, %d", i, k), a, b, class)
			}
		}
	})
	if seen[impl.OutLeft] == 0 || seen[impl.OutRight] == 0 || seen[impl.OutFirst] == 0 {
		t.Error("not all classes", seen)
	}
}

// wantMovesOfPlainOrder has the options from which the opponent does not win as those that are >= 0 or <= 0.
func wantMovesOfPlainOrder(t *testing.T, f impl.Form) {
	t.Helper()
	left, right, _ := impl.OptionsOf(f)
	var lefts, rights []int
	for i, option := range left {
		if least, _ := plainOrder(option, zeroGame()); least {
			lefts = append(lefts, i)
		}
	}
	for i, option := range right {
		if _, most := plainOrder(option, zeroGame()); most {
			rights = append(rights, i)
		}
	}
	moves, ok := impl.WinningMoves(f, true)
	wantInts(t, "WinningMoves of Left", moves, ok, lefts...)
	moves, ok = impl.WinningMoves(f, false)
	wantInts(t, "WinningMoves of Right", moves, ok, rights...)
}

func TestP4MostOptions(t *testing.T) {
	f := withAllOptions(mostOptions, true, true)
	wantOutcome(t, "all options on both sides", f, impl.OutFirst)
	moves, ok := impl.WinningMoves(f, true)
	wantInts(t, "WinningMoves of Left", moves, ok, numbersTo(mostOptions)...)
	moves, ok = impl.WinningMoves(f, false)
	wantInts(t, "WinningMoves of Right", moves, ok, 0)
	wantOrder(t, "0 to 23 on the left, 24", withAllOptions(mostOptions, true, false), chainOf(mostOptions+1), impl.OutSecond)
	wantOrder(t, "0 to 23 on the right, 0", withAllOptions(mostOptions, false, true), zeroGame(), impl.OutRight)
	for _, bad := range []impl.Form{withAllOptions(mostOptions+1, true, false), withAllOptions(mostOptions+1, false, true)} {
		wantNothingOfOrder(t, "one option too many", bad)
	}
}

// plainGreatest follows the document's words, with no regard to transitivity.
func plainGreatest(l []impl.Form) []int {
	var greatest []int
	for i, f := range l {
		beaten := false
		for k, other := range l {
			most, least := plainOrder(other, f)
			beaten = beaten || most && !least || most && least && k < i
		}
		if !beaten {
			greatest = append(greatest, i)
		}
	}
	return greatest
}

func TestP4GreatestOfKnownGames(t *testing.T) {
	g := equalGames(t)
	zero, one, two, star, up, hot, half := g[0], g[1], g[2], g[3], g[4], g[5], g[6]
	for _, c := range []struct {
		name string
		list []impl.Form
		want []int
	}{
		{"nothing", nil, nil},
		{"an empty list", []impl.Form{}, nil},
		{"0", zero[:1], ints(0)},
		{"±1", hot[:1], ints(0)},
		{"0, 1", []impl.Form{zero[0], one[0]}, ints(1)},
		{"1, 0", []impl.Form{one[0], zero[0]}, ints(0)},
		{"1, 2, 0, 2, 1", []impl.Form{one[0], two[0], zero[0], two[0], one[0]}, ints(1)},
		{"2, 1, 2, 0, 2", []impl.Form{two[1], one[1], two[0], zero[0], two[2]}, ints(0)},
		{"equal games", zero, ints(0)},
		{"equal games of value 1", one, ints(0)},
		{"identical games", []impl.Form{hot[0], hot[0], hot[0]}, ints(0)},
		{"0, *", []impl.Form{zero[0], star[0]}, ints(0, 1)},
		{"*, 0", []impl.Form{star[0], zero[0]}, ints(0, 1)},
		{"*, 0, *, 0", []impl.Form{star[1], zero[3], star[0], zero[0]}, ints(0, 1)},
		{"0, *, up", []impl.Form{zero[0], star[0], up[0]}, ints(1, 2)},
		{"up, *, 0", []impl.Form{up[0], star[0], zero[0]}, ints(0, 1)},
		{"*, 0, up, *, up", []impl.Form{star[0], zero[0], up[1], star[2], up[0]}, ints(0, 2)},
		{"0, *, up, ±1", []impl.Form{zero[0], star[0], up[0], hot[0]}, ints(1, 2, 3)},
		{"0, *, up, ±1, 1/2", []impl.Form{zero[0], star[0], up[0], hot[0], half[0]}, ints(3, 4)},
		{"1, ±1, 1/2, *", []impl.Form{one[0], hot[0], half[0], star[0]}, ints(0, 1)},
		{"1, ±1, 2, *", []impl.Form{one[0], hot[0], two[0], star[0]}, ints(2)},
		{"±1, 1, ±1, 1", []impl.Form{hot[1], one[2], hot[0], one[0]}, ints(0, 1)},
		{"0, *, ±1, then 2", []impl.Form{zero[0], star[0], hot[0], two[1], two[0]}, ints(3)},
	} {
		wantGreatest(t, "of "+c.name, c.list, c.want...)
	}
}

func TestP4GreatestOfMostElements(t *testing.T) {
	var confused, equal, towers []impl.Form
	for n := range mostRanked {
		confused = append(confused, nimber(n))
		equal = append(equal, made(t, []impl.Form{minusChain(n + 2)}, []impl.Form{chainOf(n + 2)}))
		towers = append(towers, towerOf(mostNodes-n))
	}
	rising, falling := chains(mostNodes-mostRanked+1, mostNodes), chains(mostNodes-mostRanked+1, mostNodes)
	slices.Reverse(falling)
	inTime(t, "GreatestOf", func() {
		wantGreatest(t, "of confused games", confused, numbersTo(mostRanked)...)
		wantGreatest(t, "of the longest confused games", towers, numbersTo(mostRanked)...)
		wantGreatest(t, "of equal games", equal, 0)
		wantGreatest(t, "of rising games", rising, mostRanked-1)
		wantGreatest(t, "of falling games", falling, 0)
		wantGreatest(t, "of one game many times", slices.Repeat([]impl.Form{towerOf(mostNodes)}, mostRanked), 0)
		wantGreatest(t, "of confused games below the last", append(slices.Clone(confused[1:]), chainOf(2)), mostRanked-1)
		wantGreatest(t, "of confused games below the first", append(chains(2, 2), confused[1:]...), 0)
		tangled := tangles(mostNodes, mostRanked)
		wantGreatest(t, "of deep games", tangled, plainGreatest(tangled)...)
	})
	for _, l := range [][]impl.Form{confused, equal, rising, falling, towers} {
		wantNoGreatest(t, "of one too many", append(slices.Clone(l), zeroGame()))
		wantNoGreatest(t, "of twice too many", append(slices.Clone(l), l...))
	}
	for _, many := range []int{mostRanked + 1, 26, 100, 1000000} {
		wantNoGreatest(t, fmt.Sprint("of many games: ", many), slices.Repeat([]impl.Form{zeroGame()}, many))
		wantNoGreatest(t, fmt.Sprint("of many invalid games: ", many), make([]impl.Form, many))
	}
}

func TestP4GreatestOfMixedGames(t *testing.T) {
	pool := plainForms(plainDay2())
	for _, g := range plainMixed(60) {
		if f := plainForm(g); len(f.Nodes) <= mostNodes {
			pool = append(pool, f)
		}
	}
	kept := map[int]int{}
	step := 5
	for range 400 {
		step = step * 48271 % 2147483647
		var l []impl.Form
		for range step / 16 % (mostRanked + 1) {
			step = step * 48271 % 2147483647
			l = append(l, pool[step/16%len(pool)])
		}
		want := plainGreatest(l)
		kept[len(want)]++
		wantGreatest(t, fmt.Sprint("of mixed games ", l), l, want...)
	}
	if len(kept) < 5 {
		t.Error("too few numbers of elements remain", kept)
	}
}

func wantNothingOfOrder(t *testing.T, name string, bad impl.Form) {
	t.Helper()
	for _, left := range []bool{true, false} {
		win, ok := impl.WinsMoving(bad, left)
		wantNoBool(t, "WinsMoving of "+name, win, ok)
		moves, ok := impl.WinningMoves(bad, left)
		wantNoInts(t, "WinningMoves of "+name, moves, ok)
	}
	n, ok := impl.OutcomeOf(bad)
	wantNoInt(t, "OutcomeOf "+name, n, ok)
	for _, good := range []impl.Form{zeroGame(), chainOf(2), minusChain(2), nimber(1), bad} {
		for _, pair := range [][2]impl.Form{{bad, good}, {good, bad}} {
			least, ok := impl.AtLeast(pair[0], pair[1])
			wantNoBool(t, "AtLeast with "+name, least, ok)
			same, ok := impl.EqualForms(pair[0], pair[1])
			wantNoBool(t, "EqualForms with "+name, same, ok)
			n, ok := impl.CompareForms(pair[0], pair[1])
			wantNoInt(t, "CompareForms with "+name, n, ok)
		}
		for _, l := range [][]impl.Form{{bad}, {bad, good}, {good, bad}, {good, bad, good}, {good, good, bad}, {bad, good, bad}} {
			wantNoGreatest(t, "with "+name, l)
		}
	}
}

func TestP4InvalidForms(t *testing.T) {
	for name, bad := range invalidForms() {
		wantNothingOfOrder(t, name, bad)
	}
}

func TestP4InvalidElements(t *testing.T) {
	for i := range mostRanked {
		for _, bad := range []impl.Form{{}, chainOf(mostNodes + 1), formOf(node(nil, nil), node(nil, nil)), withAllOptions(mostOptions+1, true, true)} {
			l := chains(2, mostRanked+1)
			l[i] = bad
			wantNoGreatest(t, fmt.Sprint("with an invalid element at ", i), l)
		}
	}
}

func TestP4NilAndEmpty(t *testing.T) {
	for _, zero := range []impl.Form{formOf(node(nil, nil)), formOf(node(ints(), ints())), formOf(node(nil, ints()))} {
		for _, one := range []impl.Form{chainOf(2), formOf(node(ints(), ints()), node(ints(0), ints()))} {
			wantOutcome(t, "0", zero, impl.OutSecond)
			wantOutcome(t, "1", one, impl.OutLeft)
			wantOrder(t, "0, 1", zero, one, impl.OutRight)
			wantOrder(t, "0, 0", zero, zeroGame(), impl.OutSecond)
			wantGreatest(t, "0, 1, 1, 0", []impl.Form{zero, one, chainOf(2), zeroGame()}, 1)
			for _, left := range []bool{true, false} {
				moves, ok := impl.WinningMoves(zero, left)
				wantInts(t, "WinningMoves in 0", moves, ok)
			}
		}
	}
}

func TestP30OrderModifiesNoArgument(t *testing.T) {
	for i, g := range append(plainDay2(), plainMixed(30)...) {
		want := plainForm(g)
		f, star := withSpare(want), withSpare(nimber(1))
		wantOutcome(t, fmt.Sprint("game ", i), f, plainOutcome(g))
		wantOrder(t, fmt.Sprint("game ", i, " and *"), f, star, plainClass(plainOrder(want, nimber(1))))
		for _, left := range []bool{true, false} {
			moves, ok := impl.WinningMoves(f, left)
			wantInts(t, "WinningMoves", moves, ok, plainWinningMoves(g, left)...)
		}
		l := []impl.Form{f, star, f, {}, chainOf(mostNodes)}
		wantGreatest(t, "of a part of a list", l[:3], plainGreatest(l[:3])...)
		wantSpare(t, "a function of the order", f, want)
		wantSpare(t, "a function of the order", star, nimber(1))
		if len(l[3].Nodes) != 0 || !sameNodes(l[4], chainOf(mostNodes)) {
			t.Error("GreatestOf wrote behind the end of its list")
		}
	}
}

func TestP30MovesShareNoMemory(t *testing.T) {
	for _, side := range []bool{true, false} {
		f := withAllOptions(mostOptions, side, !side)
		moves, _ := impl.WinningMoves(f, side)
		again, _ := impl.WinningMoves(f, side)
		clear(moves[:cap(moves)])
		wantForm(t, "the form after its moves were changed", f, true, withAllOptions(mostOptions, side, !side))
		spoil(f)
		wantInts(t, "WinningMoves after the form and other moves were changed", again, true, map[bool][]int{true: numbersTo(mostOptions), false: ints(0)}[side]...)
	}
}

func TestP30GreatestSharesNoMemory(t *testing.T) {
	l := []impl.Form{nimber(1), zeroGame(), nimber(2), nimber(1)}
	greatest, _ := impl.GreatestOf(l)
	again, _ := impl.GreatestOf(l)
	clear(greatest[:cap(greatest)])
	spoilAll(l)
	wantInts(t, "GreatestOf after the list and another result were changed", again, true, 0, 1, 2)
}

func TestP30OrderReturnsForAll(t *testing.T) {
	forms := strangeForms()
	for i, f := range forms {
		func() {
			defer noPanic(t, fmt.Sprint(f))
			g := forms[(i*7+3)%len(forms)]
			for _, left := range []bool{true, false} {
				impl.WinsMoving(f, left)
				impl.WinningMoves(f, left)
			}
			impl.OutcomeOf(f)
			impl.AtLeast(f, g)
			impl.EqualForms(f, g)
			impl.CompareForms(f, g)
			impl.GreatestOf([]impl.Form{f, g})
			impl.GreatestOf([]impl.Form{f})
		}()
	}
}

func TestP30OrderKeepsNoState(t *testing.T) {
	up, star := read(t, "{{|}|{{|}|{|}}}"), nimber(1)
	for range 2 {
		wantOrder(t, "up, *", up, star, impl.OutFirst)
		wantOrder(t, "0, 0", zeroGame(), zeroGame(), impl.OutSecond)
		wantNothingOfOrder(t, "no game", impl.Form{})
		wantOrder(t, "*, 0", star, zeroGame(), impl.OutFirst)
		wantOrder(t, "119, -119", chainOf(mostNodes), minusChain(mostNodes), impl.OutLeft)
		wantOutcome(t, "up", up, impl.OutLeft)
		wantGreatest(t, "of up, *, 0", []impl.Form{up, star, zeroGame()}, 0, 1)
	}
}
