// Package text: texts, sign by sign. See doc/01-text.md.
package text

import (
	"slices"
)

// mostDigits is how many digits a number has at most.
const mostDigits = 9

// Plain tells whether no byte of s is bad.
func Plain(s string) bool {
	for i := range len(s) {
		if b := s[i]; b != '\t' && b != '\n' && !printable(b) {
			return false
		}
	}
	return true
}

// Number reads s as a number of 1 to 9 digits, with no 0 ahead of others.
func Number(s string) (int, bool) {
	if len(s) < 1 || len(s) > mostDigits || len(s) > 1 && s[0] == '0' {
		return 0, false
	}
	n := 0
	for i := range len(s) {
		if s[i] < '0' || s[i] > '9' {
			return 0, false
		}
		n = n*10 + int(s[i]-'0')
	}
	return n, true
}

// Sorted answers each text of l once, rising as bytes.
func Sorted(l ...string) []string {
	// A caller may hand in a list of its own as l: only a copy may be put in order.
	out := make([]string, len(l))
	copy(out, l)
	slices.Sort(out)
	return slices.Compact(out)
}

// printable tells whether b is one of the bytes 32 to 126.
func printable(b byte) bool {
	return b >= ' ' && b <= '~'
}
