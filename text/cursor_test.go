package text_test

import (
	"math"
	"strings"
	"testing"

	"transhumance/api"
	"transhumance/text"
)

// The face of the package: this stops compiling if a signature changes.
var (
	_ func(string) *text.Cursor         = text.New
	_ func(*text.Cursor) (byte, bool)   = (*text.Cursor).Peek
	_ func(*text.Cursor, string) bool   = (*text.Cursor).Take
	_ func(*text.Cursor, string) string = (*text.Cursor).While
	_ func(*text.Cursor) int            = (*text.Cursor).At
	_ func(*text.Cursor) api.Place      = (*text.Cursor).Place
	_ func(string, int) api.Place       = text.Place
	_ func(string) bool                 = text.Plain
	_ func(string) (int, bool)          = text.Number
	_ func(string) string               = text.Quote
	_ func(string) (string, int, bool)  = text.Unquote
	_ func(...string) []string          = text.Sorted
)

// expectAt fails unless the cursor is at at, of that line and column, with next as the byte that is next (below 0: none).
func expectAt(t *testing.T, c *text.Cursor, at, line, col, next int) {
	t.Helper()
	if got := c.At(); got != at {
		t.Errorf("At: %d, want %d", got, at)
	}
	if got, want := c.Place(), (api.Place{Line: line, Col: col}); got != want {
		t.Errorf("Place: %v, want %v", got, want)
	}
	b, is := c.Peek()
	if is != (next >= 0) || is && int(b) != next || !is && b != 0 {
		t.Errorf("Peek: %d, %v, want %d", b, is, next)
	}
}

// P101: New is at 0; to ask where it is does not move it.
func TestNewIsAtTheBeginning(t *testing.T) {
	c := text.New("ab")
	expectAt(t, c, 0, 1, 1, 'a')
	expectAt(t, c, 0, 1, 1, 'a')
	expectAt(t, text.New("\n"), 0, 1, 1, '\n')
	expectAt(t, text.New("\xff"), 0, 1, 1, 0xff)
	expectAt(t, text.New("\x00"), 0, 1, 1, 0)
}

// P101: an empty text has no byte, and its only place is the first.
func TestEmptyText(t *testing.T) {
	c := text.New("")
	expectAt(t, c, 0, 1, 1, -1)
	if c.Take("a") || !c.Take("") {
		t.Error("Take")
	}
	if got := c.While("a"); got != "" {
		t.Errorf("While: %q", got)
	}
	expectAt(t, c, 0, 1, 1, -1)
}

// P101: Take moves behind what is next, and only then.
func TestTake(t *testing.T) {
	c := text.New("let\tx")
	for _, other := range []string{"e", "lat", "Let", "let\tx ", "\x00"} {
		if c.Take(other) {
			t.Errorf("Take %q", other)
		}
		expectAt(t, c, 0, 1, 1, 'l')
	}
	if !c.Take("") {
		t.Error("Take of nothing")
	}
	expectAt(t, c, 0, 1, 1, 'l')
	if !c.Take("let") {
		t.Error("Take let")
	}
	expectAt(t, c, 3, 1, 4, '\t')
	if c.Take("let") {
		t.Error("Take let again")
	}
	if !c.Take("\tx") {
		t.Error("Take to the end")
	}
	expectAt(t, c, 5, 1, 6, -1)
	if c.Take("x") || !c.Take("") {
		t.Error("Take at the end")
	}
	expectAt(t, c, 5, 1, 6, -1)
}

// P101: a whole text over several lines can be taken at once.
func TestTakeOverLines(t *testing.T) {
	c := text.New("a\n\nbc\nd")
	if !c.Take("a\n\nb") {
		t.Fatal("Take")
	}
	expectAt(t, c, 4, 3, 2, 'c')
	if !c.Take("c") {
		t.Fatal("Take")
	}
	expectAt(t, c, 5, 3, 3, '\n')
	if !c.Take("\n") {
		t.Fatal("Take")
	}
	expectAt(t, c, 6, 4, 1, 'd')
}

// P101: While answers the longest row of bytes in the set, in any order of the set.
func TestWhile(t *testing.T) {
	c := text.New("abba c\n\n\td")
	if got := c.While("xyz"); got != "" {
		t.Errorf("While of others: %q", got)
	}
	if got := c.While(""); got != "" {
		t.Errorf("While of no set: %q", got)
	}
	expectAt(t, c, 0, 1, 1, 'a')
	if got := c.While("ba"); got != "abba" {
		t.Errorf("While: %q", got)
	}
	expectAt(t, c, 4, 1, 5, ' ')
	if got := c.While("ba"); got != "" {
		t.Errorf("While again: %q", got)
	}
	if got := c.While("cc  "); got != " c" {
		t.Errorf("While: %q", got)
	}
	expectAt(t, c, 6, 1, 7, '\n')
	if got := c.While("\t\n"); got != "\n\n\t" {
		t.Errorf("While over lines: %q", got)
	}
	expectAt(t, c, 9, 3, 2, 'd')
	if got := c.While("abcd"); got != "d" {
		t.Errorf("While to the end: %q", got)
	}
	expectAt(t, c, 10, 3, 3, -1)
}

// P101: the set is one of bytes, not of runes, nor a range, nor a pattern.
func TestWhileOfBytes(t *testing.T) {
	c := text.New("\xa9\xc3\xc3z")
	if got := c.While("\u00e9"); got != "\xa9\xc3\xc3" {
		t.Errorf("halves of a rune: %q", got)
	}
	if got := text.New("b").While("a-c"); got != "" {
		t.Errorf("range: %q", got)
	}
	if got := text.New("\x00\x00\xff").While("\x00"); got != "\x00\x00" {
		t.Errorf("byte 0: %q", got)
	}
	if got := text.New("\xfe\xff").While("\xfe"); got != "\xfe" {
		t.Errorf("bytes that are no rune: %q", got)
	}
}

// P101, P7: cursors, of one text too, do not touch one another.
func TestCursorsStandAlone(t *testing.T) {
	c, d := text.New("ab\nc"), text.New("ab\nc")
	c.While("ab\n")
	expectAt(t, d, 0, 1, 1, 'a')
	d.Take("a")
	expectAt(t, c, 3, 2, 1, 'c')
	expectAt(t, d, 1, 1, 2, 'b')
}

// P101: Place of any number.
func TestPlace(t *testing.T) {
	cases := []struct {
		s         string
		at        int
		line, col int
	}{
		{"", 0, 1, 1}, {"", 1, 1, 1}, {"", -1, 1, 1}, {"", math.MaxInt, 1, 1}, {"", math.MinInt, 1, 1},
		{"abc", 0, 1, 1}, {"abc", 2, 1, 3}, {"abc", 3, 1, 4}, {"abc", 4, 1, 4}, {"abc", math.MaxInt, 1, 4},
		{"abc", -1, 1, 1}, {"abc", math.MinInt, 1, 1},
		{"ab\ncd", 1, 1, 2}, {"ab\ncd", 2, 1, 3}, {"ab\ncd", 3, 2, 1}, {"ab\ncd", 4, 2, 2}, {"ab\ncd", 5, 2, 3},
		{"ab\n", 2, 1, 3}, {"ab\n", 3, 2, 1}, {"ab\n", 9, 2, 1},
		{"\n\n", 0, 1, 1}, {"\n\n", 1, 2, 1}, {"\n\n", 2, 3, 1},
		{"\ta\r\nb", 1, 1, 2}, {"\ta\r\nb", 3, 1, 4}, {"\ta\r\nb", 4, 2, 1},
		{"\u00e9x\n", 2, 1, 3},
	}
	for _, k := range cases {
		if got, want := text.Place(k.s, k.at), (api.Place{Line: k.line, Col: k.col}); got != want {
			t.Errorf("Place(%q, %d): %v, want %v", k.s, k.at, got, want)
		}
	}
}

// P101: wherever a cursor goes, and by whatever steps, its place is that of At, and Peek the byte there.
func TestPlaceIsThatOfAt(t *testing.T) {
	s := "one\n\n two\tthree\nfour\n"
	for _, step := range []int{1, 2, 3, 5, len(s)} {
		c := text.New(s)
		line, col := 1, 1
		for at := 0; ; {
			next := -1
			if at < len(s) {
				next = int(s[at])
			}
			expectAt(t, c, at, line, col, next)
			if got := text.Place(s, at); got != c.Place() {
				t.Errorf("Place(%q, %d): %v", s, at, got)
			}
			if at == len(s) {
				break
			}
			end := min(at+step, len(s))
			if !c.Take(s[at:end]) {
				t.Fatalf("Take %q", s[at:end])
			}
			for ; at < end; at++ {
				if col++; s[at] == '\n' {
					line, col = line+1, 1
				}
			}
		}
	}
}

// P1, Limits: a text beyond MaxBytes is read like any other, in one pass, whatever the set.
func TestLongText(t *testing.T) {
	row := strings.Repeat("a", 1<<20)
	c := text.New(row + "\n" + row)
	if got := c.While(strings.Repeat("b", 1<<20) + "a"); got != row {
		t.Errorf("While: %d bytes", len(got))
	}
	if !c.Take("\n" + row) {
		t.Error("Take")
	}
	expectAt(t, c, 2<<20+1, 2, 1<<20+1, -1)
}
