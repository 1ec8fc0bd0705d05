package path

import (
	"strconv"
	"strings"

	"transhumance/api"
)

// leastMajor is the least number that a path ends with: versions below it need none.
const leastMajor = 2

// line is all versions of one major number (0: of those that need none) below one root.
type line struct {
	root  string
	major int
}

// lineOf parts s, a path.
func lineOf(s string) line {
	at := strings.LastIndexByte(s, '/')
	if at < 0 {
		return line{root: s}
	}
	n, is := number(s[at+1:])
	if !is {
		return line{root: s}
	}
	return line{root: s[:at], major: n}
}

// number reads a word as `v` and a major number.
func number(word string) (int, bool) {
	digits, is := strings.CutPrefix(word, "v")
	n, err := strconv.Atoi(digits)
	if !is || err != nil || n < leastMajor || n > api.MaxPart {
		return 0, false
	}
	// Atoi takes signs and noughts ahead, too: a number is right only if it is written just so.
	if strconv.Itoa(n) != digits {
		return 0, false
	}
	return n, true
}

func (l line) fits(v api.Ver) bool {
	if l.major == 0 {
		return v.A >= 0 && v.A < leastMajor
	}
	return v.A == l.major
}

// covers tells whether root is within the line's own.
func (l line) covers(root string) bool { return Within(root, l.root) }

// module is a path, with the line that it stands for.
type module struct {
	line
	path string
}

// better tells whether m is to be found ahead of other, if both may be.
func (m module) better(other module) bool {
	if len(m.root) != len(other.root) {
		return len(m.root) > len(other.root)
	}
	return m.path < other.path
}
