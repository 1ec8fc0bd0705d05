package text

import (
	"strings"

	"transhumance/api"
)

// mark is how far a text has been read. It counts lines as it goes, so that telling its place does not mean reading the text again.
type mark struct {
	at    int
	ended int // lines that ended ahead of at
	first int // where the line of at begins
}

// pass moves the mark behind row, the bytes that are next.
func (m *mark) pass(row string) {
	if last := strings.LastIndexByte(row, '\n'); last >= 0 {
		m.ended += strings.Count(row, "\n")
		m.first = m.at + last + 1
	}
	m.at += len(row)
}

// place tells the line and the column of the mark.
func (m *mark) place() api.Place {
	return api.Place{Line: m.ended + 1, Col: m.at - m.first + 1}
}

// Cursor reads a text from its beginning on.
type Cursor struct {
	mark
	text string
}

// New answers a cursor at the beginning of s.
func New(s string) *Cursor { return &Cursor{text: s} }

// Peek answers the byte that is next, or false at the end.
func (c *Cursor) Peek() (byte, bool) {
	if c.at >= len(c.text) {
		return 0, false
	}
	return c.text[c.at], true
}

// Take moves behind s if s is next, and tells whether it is.
func (c *Cursor) Take(s string) bool {
	if !strings.HasPrefix(c.rest(), s) {
		return false
	}
	c.pass(s)
	return true
}

// While moves behind the longest row of bytes that are next and in set, and answers it.
func (c *Cursor) While(set string) string {
	// Bytes, not runes: half of a rune in set is a byte like any other.
	var in [256]bool
	for i := range len(set) {
		in[set[i]] = true
	}
	rest := c.rest()
	n := 0
	for n < len(rest) && in[rest[n]] {
		n++
	}
	c.pass(rest[:n])
	return rest[:n]
}

// At answers how many bytes are behind the cursor.
func (c *Cursor) At() int { return c.at }

// Place answers the line and the column of the byte that is next.
func (c *Cursor) Place() api.Place { return c.place() }

// rest is what has not been read.
func (c *Cursor) rest() string { return c.text[c.at:] }

// next answers the byte that is next and moves behind it.
func (c *Cursor) next() (byte, bool) {
	b, is := c.Peek()
	if is {
		c.pass(c.rest()[:1])
	}
	return b, is
}

// Place answers the line and the column of the byte of s at at: below 0 as 0, beyond s as its end.
func Place(s string, at int) api.Place {
	var m mark
	m.pass(s[:min(max(at, 0), len(s))])
	return m.place()
}
