package table_test

import (
	"math/rand"
	"regexp"
	"strings"
	"testing"

	"transhumance/api"
	"transhumance/path"
	"transhumance/table"
	"transhumance/text"
)

// Patterns of what may stand on a line, in the words of the chapter. In each, what is parted off may be missing: how far the pattern goes is where the line is wrong.
var (
	noneForm   = regexp.MustCompile(`\A[ \t]*(?:#[\t -~]*)?`)
	headerForm = regexp.MustCompile(`\A[ \t]*\[(?:\[(?:l(?:o(?:c(?:k(?:\](?:\](?:[ \t]*(?:#[\t -~]*)?))?)?)?)?)?)?)?`)
	pairForm   = regexp.MustCompile(`\A[ \t]*([a-z]+)[ \t]*(?:=[ \t]*(?:("(?:[ !#-\[\]-~]|\\["\\/nt])*")[ \t]*(?:#[\t -~]*)?)?)?`)
	wholeForm  = regexp.MustCompile(`\A[ \t]*\[\[lock\]\]`)
)

// fault is what is wrong at a byte.
type fault struct {
	at int
	e  api.Errno
}

// hearing is a second way to read a text: all that is wrong is gathered, wherever it stands, and the leftmost of it is told.
type hearing struct {
	faults []fault
	locks  []map[string]string
}

func (h *hearing) wrong(is bool, at int, e api.Errno) {
	if is {
		h.faults = append(h.faults, fault{at, e})
	}
}

// line hears a line that begins at at.
func (h *hearing) line(s string, at int) {
	begin := at + len(s) - len(strings.TrimLeft(s, " \t"))
	if none := noneForm.FindString(s); len(none) == len(s) || strings.Contains(none, "#") {
		h.wrong(len(none) < len(s), at+len(none), api.BadText)
		return
	}
	if head := headerForm.FindString(s); head != "" {
		h.wrong(len(head) < len(s) || !wholeForm.MatchString(s), at+len(head), api.BadText)
		if wholeForm.MatchString(s) {
			h.ended(begin)
			h.wrong(len(h.locks) >= 40, begin, api.TooLong)
			h.locks = append(h.locks, map[string]string{})
		}
		return
	}
	spots := pairForm.FindStringSubmatchIndex(s)
	if spots == nil {
		h.wrong(true, begin, api.BadText)
		return
	}
	h.wrong(spots[1] < len(s) || spots[4] < 0, at+spots[1], api.BadText)
	h.pair(s[spots[2]:spots[3]], begin, s[max(spots[4], 0):max(spots[5], 0)], at+spots[4])
}

// pair hears a key at at, and a quoted text at its own ("": none).
func (h *hearing) pair(key string, at int, quoted string, quotedAt int) {
	known := strings.Contains(" root version revision within source ", " "+key+" ")
	h.wrong(!known || len(h.locks) == 0, at, api.BadText)
	if len(h.locks) == 0 {
		return
	}
	l := h.locks[len(h.locks)-1]
	_, has := l[key]
	h.wrong(has, at, api.Twice)
	l[key] = ""
	if quoted != "" {
		l[key], _, _ = text.Unquote(quoted)
		h.wrong((key == "root" || key == "source") && !path.Right(l[key]), quotedAt, api.BadPath)
	}
}

// ended hears that the last lock ends at at.
func (h *hearing) ended(at int) {
	if len(h.locks) == 0 {
		return
	}
	last := len(h.locks) - 1
	l := h.locks[last]
	h.wrong(l["root"] == "" || l["version"]+l["revision"] == "", at, api.BadText)
	for _, ahead := range h.locks[:last] {
		h.wrong(ahead["root"] == l["root"], at, api.Twice)
	}
}

// heard answers what Locks has to tell of s: its locks, or where it is wrong.
func heard(s string) ([]api.Lock, int, api.Errno) {
	if len(s) > 8000 {
		return nil, 0, api.TooLong
	}
	h := &hearing{}
	at := 0
	for line := range strings.SplitSeq(s, "\n") {
		h.line(line, at)
		at += len(line) + 1
	}
	h.ended(len(s))
	if len(h.faults) == 0 {
		var l []api.Lock
		for _, one := range h.locks {
			l = append(l, api.Lock{Root: one["root"], Version: one["version"], Rev: one["revision"], Within: one["within"], Source: one["source"]})
		}
		return l, 0, api.OK
	}
	first := h.faults[0]
	for _, f := range h.faults {
		if f.at < first.at { // of one place the first that was heard
			first = f
		}
	}
	return nil, first.at, first.e
}

// expectHeard fails unless Locks tells of s what is heard.
func expectHeard(t *testing.T, s string) {
	t.Helper()
	want, at, e := heard(s)
	if e != api.OK {
		place := text.Place(s, at)
		expectFault(t, s, place.Line, place.Col, e)
		return
	}
	expectLocks(t, s, want...)
}

// expectAll fails unless Locks tells what is heard of all texts of so many of these words, behind ahead.
func expectAll(t *testing.T, ahead string, words []string, most int) {
	t.Helper()
	expectHeard(t, ahead)
	if most == 0 || t.Failed() {
		return
	}
	for _, word := range words {
		expectAll(t, ahead+word, words, most-1)
	}
}

// P601: all short texts of the chapter's words.
func TestAllShortTexts(t *testing.T) {
	words := []string{"[[lock]]", "\n", " ", "#", "root", "version", "=", "\"a\"", "\"\"", "x", "[", "\x00"}
	expectAll(t, "", words, 4)
	expectAll(t, "[[lock]]\n", words, 4)
	expectAll(t, right, words, 4)
	expectAll(t, rows(40), words[:9], 3)
}

// P601: all short texts of whole lines.
func TestAllRowsOfLines(t *testing.T) {
	lines := []string{"[[lock]]\n", "\t[[lock]] # x\n", "root = \"a\"\n", "root=\"b\"\n", "root = \"\"\n", "version = \"v\"\n", "revision = \"\"\n", "revision=\"r\"\n", "source = \"A\"\n", "\n", "[[lock\n", "root"}
	expectAll(t, "", lines, 4)
	expectAll(t, right, lines, 4)
	expectAll(t, rows(39), lines[:10], 3)
	expectAll(t, right+"[[lock]]\n", lines[2:9], 4)
}

// P601: each byte in each place of a text, put in and in place of another; and the text cut off there.
func TestEachByteInEachPlace(t *testing.T) {
	s := "# x\n\t[[lock]] # y\nroot = \"a\" #\n version\t=\"v\"\n[[lock]]\nsource=\"c/d\"\nrevision = \"\\n\"\n within =\"\"\nroot = \"b\""
	expectLocks(t, s, api.Lock{Root: "a", Version: "v"}, api.Lock{Root: "b", Rev: "\n", Source: "c/d"})
	for at := range len(s) + 1 {
		expectHeard(t, s[:at])
		expectHeard(t, s[:at]+"\n")
		for b := range 256 {
			one := string([]byte{byte(b)})
			expectHeard(t, s[:at]+one+s[at:])
			expectHeard(t, s[:at]+one+s[min(at+1, len(s)):])
		}
	}
}

// P601: right texts, with some bytes changed, put in or left out.
func TestBrokenTexts(t *testing.T) {
	die := rand.New(rand.NewSource(5))
	for range 40000 {
		s := table.Write(diced(die))
		for range die.Intn(4) {
			at := die.Intn(len(s) + 1)
			one := string([]byte{"\"[]=#\\ \n\t\x00\x80\xffalrovAo2/."[die.Intn(22)]})
			switch die.Intn(3) {
			case 0:
				s = s[:at] + one + s[at:]
			case 1:
				s = s[:at] + one + s[min(at+1, len(s)):]
			case 2:
				s = s[:at] + s[min(at+1, len(s)):]
			}
		}
		expectHeard(t, s)
		if t.Failed() {
			return
		}
	}
}

// P601: right texts, with their lines moved about, put in again and left out.
func TestMixedLines(t *testing.T) {
	die := rand.New(rand.NewSource(6))
	for range 20000 {
		lines := strings.SplitAfter(table.Write(diced(die)), "\n")
		for range die.Intn(3) {
			i, j := die.Intn(len(lines)), die.Intn(len(lines))
			switch die.Intn(3) {
			case 0:
				lines[i], lines[j] = lines[j], lines[i]
			case 1:
				lines[i] += lines[j]
			case 2:
				lines[i] = ""
			}
		}
		expectHeard(t, strings.Join(lines, ""))
		if t.Failed() {
			return
		}
	}
}

// P1: of any bytes, Locks ends, and tells what is heard.
func TestAnyBytes(t *testing.T) {
	die := rand.New(rand.NewSource(9))
	for range 20000 {
		s := make([]byte, die.Intn(30))
		for i := range s {
			s[i] = byte(die.Intn(256))
		}
		expectHeard(t, string(s))
		expectHeard(t, right+string(s))
		if t.Failed() {
			return
		}
	}
}
