package impl

import (
	"strconv"
	"strings"
)

const MaxText = 4000
const MaxNum = 999999

const sealMark = "#"

const (
	sumStart  = 5
	sumFactor = 37
	// A prime above every difference of two bytes, so that one changed byte always changes the checksum.
	sumModulus = 999983
)

// NumText returns the decimal representation of n, if n is in -MaxNum..MaxNum.
func NumText(n int) (string, bool) {
	if n < -MaxNum || n > MaxNum {
		return "", false
	}
	return strconv.Itoa(n), true
}

// ReadNum returns the number whose NumText is s.
func ReadNum(s string) (int, bool) {
	n, err := strconv.Atoi(s)
	if err != nil {
		return 0, false
	}
	// Atoi takes more spellings than NumText writes: a plus sign, leading zeros, "-0".
	if text, ok := NumText(n); !ok || text != s {
		return 0, false
	}
	return n, true
}

// SplitText returns the parts of s between the occurrences of the one-byte separator sign.
func SplitText(s string, sign string) ([]string, bool) {
	if len(s) > MaxText || len(sign) != 1 {
		return []string{}, false
	}
	return strings.Split(s, sign), true
}

// JoinTexts returns the elements of l with the one-byte separator sign between them.
func JoinTexts(l []string, sign string) (string, bool) {
	if len(l) == 0 || len(sign) != 1 || !joinable(l, sign[0]) {
		return "", false
	}
	return strings.Join(l, sign), true
}

// joinable reports whether no element of l contains mark and all of them fit into MaxText bytes with a mark between each two.
// It counts the bytes of an element before it reads them, so that it never reads more than MaxText bytes of a huge argument.
func joinable(l []string, mark byte) bool {
	room := MaxText - (len(l) - 1)
	passed := 0
elements:
	for _, element := range l {
		room -= len(element)
		if room < 0 {
			break
		}
		for i := range len(element) {
			if element[i] == mark {
				break elements
			}
		}
		passed++
	}
	return passed == len(l)
}

// LessText reports whether a precedes b in the lexicographic order by bytes.
func LessText(a string, b string) bool {
	return a < b
}

// SumOf returns the checksum of s.
func SumOf(s string) (int, bool) {
	if len(s) > MaxText {
		return 0, false
	}
	sum := sumStart
	for i := range len(s) {
		sum = (sumFactor*sum + int(s[i]) + 1) % sumModulus
	}
	return sum, true
}

// SealText returns s with its checksum behind it.
func SealText(s string) (string, bool) {
	sum, ok := SumOf(s)
	if !ok || strings.Contains(s, sealMark) {
		return "", false
	}
	sealed := s + sealMark + strconv.Itoa(sum)
	if len(sealed) > MaxText {
		return "", false
	}
	return sealed, true
}

// OpenText returns the text whose SealText is s.
func OpenText(s string) (string, bool) {
	text, _, _ := strings.Cut(s, sealMark)
	// Sealing again rejects every other spelling of the checksum as well, such as leading zeros.
	if sealed, ok := SealText(text); !ok || sealed != s {
		return "", false
	}
	return text, true
}
