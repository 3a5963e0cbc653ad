package impl

import (
	"strconv"
	"strings"
)

const MaxText = 4000
const MaxNum = 999999

const sealMark = "#"

const (
	sumStart  = 5
	sumFactor = 37
	// A prime above every difference of two bytes, so that one changed byte always changes the checksum.
	sumModulus = 999983
)

func NumText(n int) (string, bool) {
	if n < -MaxNum || n > MaxNum {
		return "", false
	}
	return strconv.Itoa(n), true
}

func ReadNum(s string) (int, bool) {
	n, err := strconv.Atoi(s)
	if err != nil {
		return 0, false
	}
	// Atoi takes more spellings than NumText writes: a plus sign, leading zeros, "-0".
	if text, ok := NumText(n); !ok || text != s {
		return 0, false
	}
	return n, true
}

func SplitText(s string, sign string) ([]string, bool) {
	if len(s) > MaxText || len(sign) != 1 {
		return []string{}, false
	}
	return strings.Split(s, sign), true
}

func JoinTexts(l []string, sign string) (string, bool) {
	if len(l) == 0 || len(sign) != 1 || !joinable(l, sign[0]) {
		return "", false
	}
	return strings.Join(l, sign), true
}

// joinable counts the bytes of an element before it reads them, so that it reads at most MaxText bytes of a huge argument.
func joinable(l []string, mark byte) bool {
	room := MaxText - (len(l) - 1)
	passed := 0
elements:
	for _, element := range l {
		room -= len(element)
		if room < 0 {
			break
		}
		for i := range len(element) {
			if element[i] == mark {
				break elements
			}
		}
		passed++
	}
	return passed == len(l)
}

func LessText(a string, b string) bool {
	return a < b
}

func SumOf(s string) (int, bool) {
	if len(s) > MaxText {
		return 0, false
	}
	sum := sumStart
	for i := range len(s) {
		sum = (sumFactor*sum + int(s[i]) + 1) % sumModulus
	}
	return sum, true
}

func SealText(s string) (string, bool) {
	sum, ok := SumOf(s)
	if !ok || strings.Contains(s, sealMark) {
		return "", false
	}
	sealed := s + sealMark + strconv.Itoa(sum)
	if len(sealed) > MaxText {
		return "", false
	}
	return sealed, true
}

func OpenText(s string) (string, bool) {
	text, _, _ := strings.Cut(s, sealMark)
	// Sealing again rejects every other spelling of the checksum as well, such as leading zeros.
	if sealed, ok := SealText(text); !ok || sealed != s {
		return "", false
	}
	return text, true
}
