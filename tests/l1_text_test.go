package tests

import (
	"math"
	"slices"
	"strconv"
	"strings"
	"testing"

	"loop.example/g00868/impl"
)

// textsOf takes the alphabet by bytes, because a part of a text need not be valid UTF-8.
func textsOf(alphabet string, longest int) []string {
	all := []string{""}
	last := all
	for range longest {
		var next []string
		for _, s := range last {
			for i := range len(alphabet) {
				next = append(next, s+alphabet[i:i+1])
			}
		}
		all = append(all, next...)
		last = next
	}
	return all
}

func everyByte() string {
	b := make([]byte, 256)
	for i := range b {
		b[i] = byte(i)
	}
	return string(b)
}

// plainSum follows the document apart from the package, so that a wrong constant in the package shows.
func plainSum(s string) int {
	h := uint64(5)
	for _, c := range []byte(s) {
		h = (37*h + uint64(c) + 1) % 999983
	}
	return int(h)
}

func noPanic(t *testing.T, name string) {
	if r := recover(); r != nil {
		t.Errorf("%s panicked: %v", name, r)
	}
}

func wantNoNumber(t *testing.T, s string) {
	t.Helper()
	if n, ok := impl.ReadNum(s); n != 0 || ok {
		t.Errorf("ReadNum(%.40q) = %d, %v, want 0, false", s, n, ok)
	}
}

func wantNoText(t *testing.T, name string, s string, ok bool) {
	t.Helper()
	if s != "" || ok {
		t.Errorf("%s = %.40q, %v, want the empty string and false", name, s, ok)
	}
}

func wantNoParts(t *testing.T, name string, l []string, ok bool) {
	t.Helper()
	if len(l) != 0 || ok {
		t.Errorf("%s = %d parts, %v, want none and false", name, len(l), ok)
	}
}

func wantParts(t *testing.T, s string, sign string, want ...string) {
	t.Helper()
	l, ok := impl.SplitText(s, sign)
	if !ok || !slices.Equal(l, want) {
		t.Errorf("SplitText(%.40q, %q) = %.60q, %v, want %.60q, true", s, sign, l, ok, want)
	}
}

func wantJoined(t *testing.T, want string, sign string, l ...string) {
	t.Helper()
	s, ok := impl.JoinTexts(l, sign)
	if !ok || s != want {
		t.Errorf("JoinTexts(%.60q, %q) = %.40q, %v, want %.40q, true", l, sign, s, ok, want)
	}
}

func wantSealed(t *testing.T, s string, want string) {
	t.Helper()
	if got, ok := impl.SealText(s); !ok || got != want {
		t.Errorf("SealText(%.40q) = %q, %v, want %q, true", s, got, ok, want)
	}
	if got, ok := impl.OpenText(want); !ok || got != s {
		t.Errorf("OpenText(%q) = %.40q, %v, want %.40q, true", want, got, ok, s)
	}
}

func wantNotOpened(t *testing.T, s string) {
	t.Helper()
	if got, ok := impl.OpenText(s); got != "" || ok {
		t.Errorf("OpenText(%.60q) = %.40q, %v, want the empty string and false", s, got, ok)
	}
}

func TestP1Limits(t *testing.T) {
	if impl.MaxText != 4000 || impl.MaxNum != 999999 {
		t.Error("limits", impl.MaxText, impl.MaxNum)
	}
}

func TestP1NumbersRoundTrip(t *testing.T) {
	for n := -impl.MaxNum; n <= impl.MaxNum; n++ {
		s, ok := impl.NumText(n)
		if !ok || s != strconv.Itoa(n) {
			t.Fatalf("NumText(%d) = %q, %v", n, s, ok)
		}
		m, ok := impl.ReadNum(s)
		if !ok || m != n {
			t.Fatalf("ReadNum(%q) = %d, %v", s, m, ok)
		}
	}
}

func TestP1NumbersBeyondTheLimit(t *testing.T) {
	for _, n := range []int{impl.MaxNum + 1, -impl.MaxNum - 1, math.MaxInt, math.MinInt, 1 << 32, -1 << 32} {
		s, ok := impl.NumText(n)
		wantNoText(t, "NumText("+strconv.Itoa(n)+")", s, ok)
		wantNoNumber(t, strconv.Itoa(n))
	}
}

func TestP1NoNumbers(t *testing.T) {
	bad := []string{
		"", "-", "--1", "-0", "01", "-01", "00", "000001", "0000000", "+1", "+0", "1000000", "-1000000",
		" 1", "1 ", "1\n", "1-", "1x", "x", "1_0", "0x1", "1.0", "1e3", "1,0", "\x001", "1\x00", "\xff", "١",
		"18446744073709551617", "-9223372036854775808", "99999999999999999999999",
		strings.Repeat("0", impl.MaxText+1), strings.Repeat("9", 100000),
	}
	for _, s := range bad {
		wantNoNumber(t, s)
	}
}

func TestP1NumbersReadOnlyWhatIsWritten(t *testing.T) {
	for _, s := range textsOf("-+019 ", 5) {
		n, ok := impl.ReadNum(s)
		if !ok {
			wantNoNumber(t, s)
			if k, err := strconv.Atoi(s); err == nil && strconv.Itoa(k) == s {
				t.Errorf("ReadNum(%q) fails", s)
			}
			continue
		}
		if back, fine := impl.NumText(n); !fine || back != s {
			t.Errorf("ReadNum(%q) = %d, whose text is %q", s, n, back)
		}
	}
}

func TestP1Split(t *testing.T) {
	wantParts(t, "a,,b", ",", "a", "", "b")
	wantParts(t, "", ",", "")
	wantParts(t, ",", ",", "", "")
	wantParts(t, ",,,", ",", "", "", "", "")
	wantParts(t, ",a", ",", "", "a")
	wantParts(t, "a,", ",", "a", "")
	wantParts(t, ",a,b,", ",", "", "a", "b", "")
	wantParts(t, "abc", ",", "abc")
	wantParts(t, "a b,c", " ", "a", "b,c")
	wantParts(t, "a\x00b\xff\x00", "\x00", "a", "b\xff", "")
	wantParts(t, "\xffa\xff\xffb\x00", "\xff", "", "a", "", "b\x00")
	// The two bytes of U+00E9 are C3 A9: a separator is a byte, even inside an encoded character.
	wantParts(t, "x\xc3\xa9y", "\xa9", "x\xc3", "y")
	wantParts(t, "x\xc3\xa9y", "\xc3", "x", "\xa9y")
	wantParts(t, "\xe9\xe9", "\xe9", "", "", "")
}

func TestP1SplitInvalid(t *testing.T) {
	for _, sign := range []string{"", ",,", ", ", "ab", "\xc3\xa9", "\x00\x00", strings.Repeat(",", 5000)} {
		for _, s := range []string{"", "a", "a,,b", ",,", "\xc3\xa9"} {
			l, ok := impl.SplitText(s, sign)
			wantNoParts(t, "SplitText("+s+") at "+strconv.Quote(sign), l, ok)
		}
	}
	for _, s := range []string{strings.Repeat("a", impl.MaxText+1), strings.Repeat(",", impl.MaxText+1), strings.Repeat("a", 1000000)} {
		l, ok := impl.SplitText(s, ",")
		wantNoParts(t, "SplitText of a long text", l, ok)
	}
}

func TestP1SplitLongest(t *testing.T) {
	long := strings.Repeat("a", impl.MaxText)
	wantParts(t, long, ",", long)
	l, ok := impl.SplitText(strings.Repeat(",", impl.MaxText), ",")
	if !ok || len(l) != impl.MaxText+1 {
		t.Error("split of MaxText separators", len(l), ok)
	}
	for i, part := range l {
		if part != "" {
			t.Fatalf("part %d is %q", i, part)
		}
	}
}

func TestP1Join(t *testing.T) {
	wantJoined(t, "a,,b", ",", "a", "", "b")
	wantJoined(t, "a", ",", "a")
	wantJoined(t, "", ",", "")
	wantJoined(t, ",", ",", "", "")
	wantJoined(t, ",a,", ",", "", "a", "")
	wantJoined(t, "a,b;c", ";", "a,b", "c")
	wantJoined(t, "a\x00\xff", "\x00", "a", "\xff")
	wantJoined(t, "\x00\xffa", "\xff", "\x00", "a")
	wantJoined(t, "x\xc3\xe9\xa9", "\xe9", "x\xc3", "\xa9")
}

func TestP1JoinInvalid(t *testing.T) {
	cases := []struct {
		name string
		l    []string
		sign string
	}{
		{"nil", nil, ","},
		{"empty", []string{}, ","},
		{"no separator", []string{"a", "b"}, ""},
		{"two bytes", []string{"a", "b"}, ",;"},
		{"a character of two bytes", []string{"a", "b"}, "\xc3\xa9"},
		{"one element and no separator", []string{"a"}, ""},
		{"one element and two bytes", []string{"a"}, ",,"},
		{"separator alone", []string{","}, ","},
		{"separator in the only element", []string{"a,b"}, ","},
		{"separator first in an element", []string{",a", "b"}, ","},
		{"separator last in an element", []string{"a,", "b"}, ","},
		{"separator in the first element", []string{"a;b", "c", "d"}, ";"},
		{"separator in a middle element", []string{"a", "b;c", "d"}, ";"},
		{"separator in the last element", []string{"a", "", "c;"}, ";"},
		{"byte 0", []string{"a\x00"}, "\x00"},
		{"byte 255", []string{"b", "\xffa"}, "\xff"},
		{"a byte within a character", []string{"a", "\xc3\xa9"}, "\xa9"},
	}
	for _, c := range cases {
		s, ok := impl.JoinTexts(c.l, c.sign)
		wantNoText(t, "JoinTexts: "+c.name, s, ok)
	}
}

func TestP1JoinLongest(t *testing.T) {
	half := strings.Repeat("a", impl.MaxText/2)
	whole := half + half
	wantJoined(t, whole, ",", whole)
	wantJoined(t, half+","+half[1:], ",", half, half[1:])
	wantJoined(t, whole[1:]+",", ",", whole[1:], "")
	wantJoined(t, strings.Repeat(",", impl.MaxText), ",", make([]string, impl.MaxText+1)...)
	tooLong := [][]string{
		{whole + "a"}, {half, half}, {whole, ""}, {"", whole}, {whole, whole}, {half, "", half[1:]},
		make([]string, impl.MaxText+2), make([]string, 1000000), {strings.Repeat("a", 1000000)},
		// A separator inside an element does not make a long result shorter.
		{whole, ","}, {strings.Repeat(",", impl.MaxText+1)},
	}
	for _, l := range tooLong {
		s, ok := impl.JoinTexts(l, ",")
		wantNoText(t, "JoinTexts of "+strconv.Itoa(len(l))+" elements that are too long", s, ok)
	}
}

func TestP1SplitAndJoinRoundTrip(t *testing.T) {
	alphabet := ",;a\x00\xff"
	for _, s := range textsOf(alphabet, 5) {
		for i := range len(alphabet) {
			sign := alphabet[i : i+1]
			l, ok := impl.SplitText(s, sign)
			if !ok || len(l) != strings.Count(s, sign)+1 {
				t.Fatalf("SplitText(%q, %q) = %q, %v", s, sign, l, ok)
			}
			if back, ok := impl.JoinTexts(l, sign); !ok || back != s {
				t.Fatalf("%q at %q splits into %q and joins to %q, %v", s, sign, l, back, ok)
			}
		}
	}
	for _, a := range textsOf(alphabet, 3) {
		for _, b := range textsOf(alphabet, 2) {
			checkJoinThenSplit(t, []string{a, b})
			checkJoinThenSplit(t, []string{b, a, b})
		}
	}
}

func checkJoinThenSplit(t *testing.T, l []string) {
	t.Helper()
	s, ok := impl.JoinTexts(l, ",")
	if within := slices.ContainsFunc(l, func(e string) bool { return strings.Contains(e, ",") }); within {
		wantNoText(t, "JoinTexts of an element with the separator", s, ok)
		return
	}
	back, fine := impl.SplitText(s, ",")
	if !ok || !fine || !slices.Equal(back, l) {
		t.Errorf("%q joins to %q, %v and splits into %q, %v", l, s, ok, back, fine)
	}
}

func TestP1EveryByteSeparates(t *testing.T) {
	all := everyByte()
	for i := range len(all) {
		sign := all[i : i+1]
		wantParts(t, all, sign, all[:i], all[i+1:])
		wantJoined(t, all, sign, all[:i], all[i+1:])
		s, ok := impl.JoinTexts([]string{all}, sign)
		wantNoText(t, "JoinTexts of all bytes", s, ok)
	}
}

func TestP1Less(t *testing.T) {
	ascending := []string{"", "\x00", "\x00\x00", "\x00\xff", " ", "A", "Z", "a", "a\x00", "a\x00b", "aa", "ab", "abc", "b", "b\x7f", "b\x80", "\xc3\xa9", "\xff", "\xff\x00", "\xff\xff"}
	for i, a := range ascending {
		for k, b := range ascending {
			if impl.LessText(a, b) != (i < k) {
				t.Errorf("LessText(%q, %q) is %v", a, b, i >= k)
			}
		}
	}
	long := strings.Repeat("a", 2*impl.MaxText)
	if !impl.LessText(long, long+"a") || impl.LessText(long+"a", long) || impl.LessText(long, long) || !impl.LessText(long, "b") {
		t.Error("long texts")
	}
}

func TestP1LessIsByBytes(t *testing.T) {
	all := textsOf("\x00a\x80\xff", 3)
	for _, a := range all {
		for _, b := range all {
			if impl.LessText(a, b) != (slices.Compare([]byte(a), []byte(b)) < 0) {
				t.Fatalf("LessText(%q, %q)", a, b)
			}
		}
	}
}

func TestP1Sum(t *testing.T) {
	known := map[string]int{"": 5, "a": 283, "\x00": 186, "\xff": 441, "ab": 10570, "\xc3\xa9": 14267}
	for s, want := range known {
		if n, ok := impl.SumOf(s); !ok || n != want {
			t.Errorf("SumOf(%q) = %d, %v, want %d, true", s, n, ok, want)
		}
	}
	texts := append(textsOf("a#\x00\xff", 5), everyByte(), strings.Repeat("\xff", impl.MaxText), strings.Repeat("\x00", impl.MaxText))
	for _, s := range texts {
		if n, ok := impl.SumOf(s); !ok || n != plainSum(s) {
			t.Errorf("SumOf(%.40q) = %d, %v, want %d, true", s, n, ok, plainSum(s))
		}
	}
	for _, n := range []int{impl.MaxText + 1, 1000000} {
		if h, ok := impl.SumOf(strings.Repeat("a", n)); h != 0 || ok {
			t.Errorf("SumOf of %d bytes = %d, %v, want 0, false", n, h, ok)
		}
	}
}

func TestP1Seal(t *testing.T) {
	wantSealed(t, "a", "a#283")
	wantSealed(t, "", "#5")
	wantSealed(t, "\x00", "\x00#186")
	wantSealed(t, "\xff", "\xff#441")
	for _, s := range append(textsOf("a1\x00\xff-", 4), strings.ReplaceAll(everyByte(), "#", "")) {
		wantSealed(t, s, s+"#"+strconv.Itoa(plainSum(s)))
	}
}

func TestP1SealInvalid(t *testing.T) {
	bad := []string{"#", "a#", "#a", "a#b", "##", "a#283", "\x00#\xff", everyByte(), strings.Repeat("a", impl.MaxText-20) + "#"}
	for _, n := range []int{impl.MaxText - 1, impl.MaxText, impl.MaxText + 1, 1000000} {
		bad = append(bad, strings.Repeat("a", n))
	}
	for _, s := range bad {
		got, ok := impl.SealText(s)
		wantNoText(t, "SealText", got, ok)
	}
}

// sealedOfLength has to search, because the number of digits of a checksum is not known beforehand.
func sealedOfLength(t *testing.T, n int, digits int) (string, string) {
	t.Helper()
	for k := range 100000 {
		tail := strconv.Itoa(k)
		text := strings.Repeat("a", n-1-digits-len(tail)) + tail
		if sum := strconv.Itoa(plainSum(text)); len(sum) == digits {
			return text, text + "#" + sum
		}
	}
	t.Fatal("no text of this length")
	return "", ""
}

func TestP1SealLongest(t *testing.T) {
	for digits := 5; digits <= 6; digits++ {
		text, sealed := sealedOfLength(t, impl.MaxText, digits)
		wantSealed(t, text, sealed)
		text, sealed = sealedOfLength(t, impl.MaxText+1, digits)
		got, ok := impl.SealText(text)
		wantNoText(t, "SealText with a long result", got, ok)
		wantNotOpened(t, sealed)
	}
}

func TestP1OpenInvalid(t *testing.T) {
	bad := []string{
		"", "#", "a", "a#", "#283", "a#282", "a#284", "a#0283", "a#00283", "a#+283", "a#-283", "a#283 ", "a# 283", " a#283", "a#283\n",
		"b#283", "A#283", "a#283#", "a#283#1", "#a#283", "a##283", "a#a#283", "a#283a", "a#2830", "a#28", "a283", "a#1000266", "#05", "#-5", "5", "#5#",
		"a#0x11b", "a#2_83", "\xff#283", "a#\xff",
		strings.Repeat("a", 1000000), strings.Repeat("#", 1000000), "a#283" + strings.Repeat("0", 1000000), strings.Repeat("a", 1000000) + "#1",
	}
	for _, s := range bad {
		wantNotOpened(t, s)
	}
	for _, s := range []string{"#", "a#b", "##", "a#"} {
		wantNotOpened(t, s+"#"+strconv.Itoa(plainSum(s)))
	}
	whole := strings.Repeat("a", impl.MaxText+1)
	wantNotOpened(t, whole+"#"+strconv.Itoa(plainSum(whole)))
}

func TestP1OpensOnlyWhatIsSealed(t *testing.T) {
	for _, s := range textsOf("#0158", 6) {
		text, ok := impl.OpenText(s)
		at := strings.IndexByte(s, '#')
		want := at >= 0 && s[at+1:] == strconv.Itoa(plainSum(s[:at]))
		if ok != want || want && text != s[:at] || !want && text != "" {
			t.Errorf("OpenText(%q) = %q, %v, want success %v", s, text, ok, want)
		}
	}
}

func TestP1ChangedByteIsDetected(t *testing.T) {
	texts := []string{"", "a", "ab", "a,b;c", "{0|*}+2.^", "\x00", "\xff", "\x00\x00\xff\xff", "\"", "$", strings.ReplaceAll(everyByte(), "#", "")}
	for i := range 200 {
		texts = append(texts, "row "+strconv.Itoa(i))
	}
	for _, text := range texts {
		sealed, ok := impl.SealText(text)
		if !ok {
			t.Fatalf("SealText(%q) fails", text)
		}
		for i := range len(sealed) {
			for c := range 256 {
				checkChanged(t, sealed, i, byte(c))
			}
		}
	}
}

func TestP1ChangedByteOfLongTextIsDetected(t *testing.T) {
	_, sealed := sealedOfLength(t, impl.MaxText, 6)
	for i := range len(sealed) {
		for _, c := range []byte{0, 255, '#', '0', sealed[i] + 1, sealed[i] ^ 128} {
			checkChanged(t, sealed, i, c)
		}
	}
}

func checkChanged(t *testing.T, sealed string, i int, c byte) {
	t.Helper()
	if sealed[i] == c {
		return
	}
	changed := sealed[:i] + string([]byte{c}) + sealed[i+1:]
	if s, ok := impl.OpenText(changed); s != "" || ok {
		t.Errorf("byte %d of %.40q changed to %d is opened as %.40q, %v", i, sealed, c, s, ok)
	}
}

func TestP30TextFunctionsReturnForAll(t *testing.T) {
	odd := []string{"", "\x00", "\xff", "#", ",", "-", "a#283", "\xc3", "\xc3\xa9", strings.Repeat("#", impl.MaxText), strings.Repeat("9", impl.MaxText+1)}
	numbers := []int{0, -1, 1, math.MinInt, math.MinInt + 1, math.MaxInt}
	for _, s := range odd {
		func() {
			defer noPanic(t, strconv.Quote(s))
			impl.ReadNum(s)
			impl.SumOf(s)
			impl.SealText(s)
			impl.OpenText(s)
			for _, sign := range odd {
				impl.SplitText(s, sign)
				impl.JoinTexts([]string{s, "", s}, sign)
				impl.JoinTexts(nil, sign)
				impl.LessText(s, sign)
			}
		}()
	}
	for _, n := range numbers {
		func() {
			defer noPanic(t, strconv.Itoa(n))
			impl.NumText(n)
		}()
	}
}

func TestP30JoinLeavesItsArgument(t *testing.T) {
	behind := []string{"b", "", "a", "secret,", "unread"}
	l := behind[:3]
	for _, sign := range []string{",", "a", "", ",,"} {
		s, ok := impl.JoinTexts(l, sign)
		if sign == "," && (!ok || s != "b,,a") {
			t.Errorf("the elements beyond the length are read: %q, %v", s, ok)
		}
	}
	if !slices.Equal(behind, []string{"b", "", "a", "secret,", "unread"}) {
		t.Errorf("the argument is changed: %q", behind)
	}
}

func TestP30SplitReturnsNewMemory(t *testing.T) {
	first, _ := impl.SplitText("a,b,c", ",")
	for i := range first {
		first[i] = "changed"
	}
	_ = append(first[:0], "x", "y", "z")
	wantParts(t, "a,b,c", ",", "a", "b", "c")
	failed, _ := impl.SplitText("a", "")
	_ = append(failed, "x")
	again, ok := impl.SplitText("a", "")
	wantNoParts(t, "SplitText again", again, ok)
}

func TestP30TextFunctionsKeepNoState(t *testing.T) {
	wantSealed(t, "a", "a#283")
	impl.SumOf(strings.Repeat("x", 50))
	impl.OpenText("a#284")
	wantSealed(t, "a", "a#283")
	wantJoined(t, "a,b", ",", "a", "b")
	impl.JoinTexts([]string{"a,"}, ",")
	wantJoined(t, "a,b", ",", "a", "b")
}
