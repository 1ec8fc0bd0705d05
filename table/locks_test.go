package table_test

import (
	"slices"
	"strconv"
	"strings"
	"testing"

	"transhumance/api"
	"transhumance/table"
)

// The face of the package: this stops compiling if a signature changes.
var (
	_ func(string) ([]api.Lock, api.Place, api.Errno) = table.Locks
	_ func([]api.Lock) string                         = table.Write
)

// expectLocks fails unless Locks tells just these of s, with no place and no error.
func expectLocks(t *testing.T, s string, want ...api.Lock) {
	t.Helper()
	l, at, e := table.Locks(s)
	if e != api.OK || at != (api.Place{}) || !slices.Equal(l, want) {
		t.Errorf("Locks(%.999q): %q, %v, %v, want %q", s, l, at, e, want)
	}
}

// expectFault fails unless Locks answers e at this place, and nothing else (P4).
func expectFault(t *testing.T, s string, line, col int, e api.Errno) {
	t.Helper()
	l, at, got := table.Locks(s)
	if want := (api.Place{Line: line, Col: col}); got != e || at != want || len(l) > 0 {
		t.Errorf("Locks(%.999q): %q, %v, %v, want %v, %v", s, l, at, got, want, e)
	}
}

// expectBelow fails unless s is wrong at this column, where it begins, on the line below a lock's beginning, and below a right lock's.
func expectBelow(t *testing.T, s string, col int, e api.Errno) {
	t.Helper()
	expectFault(t, "[[lock]]\n"+s, 2, col, e)
	expectFault(t, "\n # x\n[[lock]]\n\n"+s, 5, col, e)
	expectFault(t, "[[lock]]\nroot = \"ahead\"\nversion = \"v\"\n[[lock]]\n"+s, 5, col, e)
	expectFault(t, "[[lock]]\nwithin = \"w\"\n"+s+"\n[[lock]]\nroot = \"b\"\n", 3, col, e)
}

const right = "[[lock]]\nroot = \"a\"\nversion = \"v1.2.3\"\n"

// lockA is what right tells.
var lockA = api.Lock{Root: "a", Version: "v1.2.3"}

// row are so many locks, of Roots r0, r1 and so on.
func row(n int) []api.Lock {
	var l []api.Lock
	for i := range n {
		l = append(l, api.Lock{Root: "r" + strconv.Itoa(i), Rev: "x"})
	}
	return l
}

// rows is the text of row, three lines a lock.
func rows(n int) string {
	var s string
	for _, one := range row(n) {
		s += "[[lock]]\nroot = \"" + one.Root + "\"\nrevision = \"x\"\n"
	}
	return s
}

// P601: 8000 bytes at most, whatever they are.
func TestLength(t *testing.T) {
	fill := strings.Repeat(" ", 8001-len(right))
	expectLocks(t, right+fill[1:], lockA)
	expectLocks(t, fill[1:]+right, lockA)
	expectLocks(t, right+strings.Repeat("\n", len(fill)-1), lockA)
	expectLocks(t, strings.Repeat("#", 8000))
	expectFault(t, right+fill, 1, 1, api.TooLong)
	expectFault(t, fill+right, 1, 1, api.TooLong)
	expectFault(t, strings.Repeat("\n", 8001), 1, 1, api.TooLong)
	expectFault(t, strings.Repeat("x", 8000), 1, 1, api.BadText)
	expectFault(t, strings.Repeat("x", 8001), 1, 1, api.TooLong)
	expectFault(t, strings.Repeat("\n", 7999)+"x", 8000, 1, api.BadText)
	expectFault(t, strings.Repeat(right, 250), 1, 1, api.TooLong)
}

// P601: lines of nothing, by themselves and around all others; none is told of them.
func TestNothing(t *testing.T) {
	none := []string{"", " ", "\t", " \t \t", "#", "# x", "\t#\tx", "## #", "# [[lock]]", "#root = \"a\"", " # \"", "#\\", "# ~ !\"#$%&'()*+,-./:;<=>?@[]^_`{|}"}
	for _, one := range none {
		expectLocks(t, one)
		expectLocks(t, one+"\n")
		expectLocks(t, "\n"+one)
		expectLocks(t, one+"\n"+right, lockA)
		expectLocks(t, right+one, lockA)
		expectLocks(t, strings.ReplaceAll(right, "\n", "\n"+one+"\n"), lockA)
		expectLocks(t, strings.ReplaceAll(one+"\n"+right, "\n", "\n"+one+"\n\n"), lockA)
	}
	for b := range 256 {
		bad := b != '\t' && b != '\n' && (b < ' ' || b > '~')
		s := "\n #x" + string([]byte{byte(b)})
		switch {
		case bad:
			expectFault(t, s, 2, 4, api.BadText)
			expectFault(t, s+"\n"+right, 2, 4, api.BadText)
		default:
			expectLocks(t, s)
			expectLocks(t, s+"\n"+right, lockA)
		}
	}
}

// P601: blanks around all that stands on a line, and a note behind it.
func TestBlanks(t *testing.T) {
	for _, b := range []string{"", " ", "\t", " \t", "\t \t  "} {
		for _, note := range []string{"", "#", "#x", "# [[lock]]", "# root = \"b\""} {
			end := b + note + "\n"
			expectLocks(t, b+"[[lock]]"+end+b+"root"+b+"="+b+"\"a\""+end+b+"version"+b+"="+b+"\"v1.2.3\""+end, lockA)
			expectLocks(t, b+"[[lock]]"+end+b+"root"+b+"="+b+"\"a\""+end+b+"version"+b+"="+b+"\"v1.2.3\""+b+note, lockA)
		}
	}
}

// P601: the last line with its end and without.
func TestLastLine(t *testing.T) {
	expectLocks(t, right, lockA)
	expectLocks(t, strings.TrimSuffix(right, "\n"), lockA)
	expectLocks(t, right+"\n\n", lockA)
	expectLocks(t, right+" ", lockA)
	expectFault(t, "[[lock]]", 1, 9, api.BadText)
	expectFault(t, "[[lock]]  ", 1, 11, api.BadText)
	expectFault(t, "[[lock]]\n", 2, 1, api.BadText)
	expectFault(t, "[[lock]]\n\n #x", 3, 4, api.BadText)
}

// P601: a header that is none is so at the first byte that differs, ahead of all that is wrong with the lock ahead.
func TestHeader(t *testing.T) {
	const header = "[[lock]]"
	for at := range len(header) {
		for _, other := range []byte("[]lockL #\n\t=\"\x00\r\x80\xff") {
			if other == header[at] || at == 0 && strings.IndexByte(" \t\n#", other) >= 0 {
				continue
			}
			s := header[:at] + string([]byte{other}) + header[at+1:]
			expectFault(t, s, 1, at+1, api.BadText)
			expectFault(t, "\n\t"+s+"\n", 2, at+2, api.BadText)
			expectFault(t, right+s+"\n"+right, 4, at+1, api.BadText)
			expectFault(t, right+"[[lock]]\n"+s, 5, at+1, api.BadText)
			expectFault(t, right+right+s, 7, at+1, api.BadText)
			expectFault(t, rows(40)+s, 121, at+1, api.BadText)
			// One byte more.
			expectFault(t, header[:at]+string([]byte{other})+header[at:], 1, at+1, api.BadText)
		}
	}
	// Cut off: by the text's end, a line's, a blank, a note.
	for at := 1; at < len(header); at++ {
		for _, end := range []string{"", "\n", " ", "#", "\n" + header[at:]} {
			expectFault(t, header[:at]+end, 1, at+1, api.BadText)
			expectFault(t, right+"[[lock]]\n "+header[:at]+end, 5, at+2, api.BadText)
		}
	}
	// What stands behind one.
	for _, s := range []string{"x", "]", "[[lock]]", "=", "\"a\"", "root = \"a\"", "5", "\x00", "\r", "\x7f", "\xc3"} {
		expectFault(t, "[[lock]]"+s, 1, 9, api.BadText)
		expectFault(t, "[[lock]] \t"+s+"\n", 1, 11, api.BadText)
		expectFault(t, right+" [[lock]]"+s, 4, 10, api.BadText)
	}
	expectFault(t, "[[lock]] #\x00", 1, 11, api.BadText)
}

// P601: the five keys, in any order, each there or not; those that a lock does not have are nothing.
func TestFields(t *testing.T) {
	full := api.Lock{Root: "a/b", Version: "V", Rev: "R", Within: "W", Source: "s/o"}
	lines := []string{"root = \"a/b\"\n", "version = \"V\"\n", "revision = \"R\"\n", "within = \"W\"\n", "source = \"s/o\"\n"}
	expectLocks(t, "[[lock]]\n"+strings.Join(lines, ""), full)
	for range 5 {
		lines = append(lines[1:], lines[0])
		expectLocks(t, "[[lock]]\n"+strings.Join(lines, ""), full)
		backwards := slices.Clone(lines)
		slices.Reverse(backwards)
		expectLocks(t, right+"[[lock]]\n"+strings.Join(backwards, ""), lockA, full)
	}
	expectLocks(t, "[[lock]]\nroot=\"a\"\nrevision=\"R\"", api.Lock{Root: "a", Rev: "R"})
	expectLocks(t, "[[lock]]\nroot=\"a\"\nversion=\"\"\nrevision=\"R\"\nwithin=\"\"\n", api.Lock{Root: "a", Rev: "R"})
	expectLocks(t, "[[lock]]\nroot=\"a\"\nversion=\"V\"\nrevision=\"\"\n", api.Lock{Root: "a", Version: "V"})
	expectLocks(t, "[[lock]]\nversion = \" \"\nroot = \"a\"\nwithin = \"\\\"\\n\\t\\\\\\/ # [[lock]] = \"\n", api.Lock{Root: "a", Version: " ", Within: "\"\n\t\\/ # [[lock]] = "})
	expectLocks(t, "[[lock]]\nversion = \"none at all\"\nroot = \"a\"\nwithin = \"?\"\n", api.Lock{Root: "a", Version: "none at all", Within: "?"})
	// They stay in the order in which they stand, each with its own.
	expectLocks(t, "[[lock]]\nroot=\"z\"\nversion=\"1\"\nsource=\"b\"\n[[lock]]\nroot=\"b\"\nrevision=\"2\"\nwithin=\"*\"\n[[lock]]\nversion=\"1\"\nroot=\"m\"", api.Lock{Root: "z", Version: "1", Source: "b"}, api.Lock{Root: "b", Rev: "2", Within: "*"}, api.Lock{Root: "m", Version: "1"})
}

// P601: keys that are none of the five, at their first byte; what is no key at all, at its own.
func TestKeys(t *testing.T) {
	for _, key := range []string{"x", "roo", "roots", "rootx", "versio", "versions", "revisions", "rev", "withina", "sources", "lock", "path", "origin", "abcdefghijklmnopqrstuvwxyz"} {
		for _, behind := range []string{" = \"a\"", "=\"A\"", "", " ", "\n", "2 = \"a\"", "\x00", " = a", "]"} {
			expectBelow(t, key+behind, 1, api.BadText)
			expectBelow(t, " \t"+key+behind, 3, api.BadText)
		}
	}
	for _, s := range []string{"= \"a\"", "5", "Root = \"a\"", "ROOT = \"a\"", "\"a\"", "\"root\" = \"a\"", "_root = \"a\"", "-", "]", "\\", "\x00", "\r\n", "\x1f", "\x7f", "\x80", "\xff", "\xc3\xa4 = \"a\"", ";", "/"} {
		expectBelow(t, s, 1, api.BadText)
		expectBelow(t, "\t "+s, 3, api.BadText)
		expectFault(t, s, 1, 1, api.BadText)
		expectFault(t, "\n "+s, 2, 2, api.BadText)
	}
}

// P601: a key ahead of any lock.
func TestKeyAheadOfLocks(t *testing.T) {
	for _, key := range []string{"root", "version", "revision", "within", "source", "x", "locks"} {
		for _, behind := range []string{" = \"a\"\n", " = \"\"", "", "2", "\n", " x"} {
			expectFault(t, key+behind, 1, 1, api.BadText)
			expectFault(t, "# x\n\n "+key+behind+"\n"+right, 3, 2, api.BadText)
		}
	}
}

// P601: behind each key, an `=`; what may not stand there is so at its first byte, a line's end and the text's too.
func TestNoEquals(t *testing.T) {
	for _, key := range []string{"root", "version", "revision", "source"} {
		n := len(key)
		for _, s := range []string{"", "\n", "2 = \"a\"", "A = \"a\"", "_", "-x=\"a\"", ".x", "#", "\"a\"", ": \"a\"", "[", "\x00", "\r", "\xff"} {
			expectBelow(t, key+s, n+1, api.BadText)
			expectBelow(t, " "+key+"\t "+s, n+4, api.BadText)
		}
		for b := range 256 {
			if letter := b >= 'a' && b <= 'z'; !letter && b != ' ' && b != '\t' && b != '=' {
				expectBelow(t, key+string([]byte{byte(b)})+" = \"a\"", n+1, api.BadText)
			}
		}
		expectBelow(t, key+" x = \"a\"", n+2, api.BadText)
		expectBelow(t, key+" "+key+" = \"a\"", n+2, api.BadText)
	}
}

// P601: behind each `=`, a quoted text; one that is none is so at its first byte.
func TestNoQuotedText(t *testing.T) {
	for _, key := range []string{"root", "version", "revision", "source"} {
		n := len(key)
		for _, s := range []string{"", "\n", "a", "= \"a\"", "#", "# \"a\"", "'a'", "5", "\\\"a\"", "[\"a\"]", "\x00", "\r", "\xff", "\"", "\"a", "\"a\\\"", "\"\\", "\"a\\x\"", "\"\\a\"", "\"a\nb\"", "\"\n", "\"a\tb\"", "\"\x00\"", "\"\x1f\"", "\"a\x7f\"", "\"\xc3\xa4\"", "\"a\x00", "\"a #\n"} {
			expectBelow(t, key+"="+s, n+2, api.BadText)
			expectBelow(t, "\t"+key+" =\t "+s, n+6, api.BadText)
		}
	}
}

// P601: behind each quoted text, nothing but blanks and a note.
func TestBehindQuotedText(t *testing.T) {
	for _, key := range []string{"root", "version", "revision", "source"} {
		n := len(key)
		for _, s := range []string{"x", "\"", "\"b\"", ",", "[[lock]]", "=", "root = \"b\"", "5", "\\", "\x00", "\r\n", "\x7f", "\xff"} {
			expectBelow(t, key+"=\"a\""+s, n+5, api.BadText)
			expectBelow(t, " "+key+" = \"a\" \t"+s, n+10, api.BadText)
		}
		expectBelow(t, key+"=\"a\"#\x00", n+6, api.BadText)
	}
}

// P601: each of the five keys once a lock, with nothing in it, too; once more in another one.
func TestKeyTwice(t *testing.T) {
	for _, key := range []string{"root", "version", "revision", "within", "source"} {
		for _, behind := range []string{" = \"a\"", "=\"b\"\n", " = \"\"", " = \"A\" x", "", "2", "\n", " x", "\x00"} {
			expectFault(t, "[[lock]]\n"+key+" = \"a\"\n"+key+behind, 3, 1, api.Twice)
			expectFault(t, right+"[[lock]]\n"+key+" = \"c\"\n# x\n\t "+key+behind, 7, 3, api.Twice)
		}
		for _, other := range []string{"root", "version", "revision", "within", "source"} {
			if other != key {
				expectFault(t, "[[lock]]\n"+key+" = \"a\"\n"+other+" = \"b\"\n"+key+" = \"a\"", 4, 1, api.Twice)
				expectFault(t, "[[lock]]\n"+other+" = \"a\"\n"+key+" = \"b\"\n"+key+" = \"a\"", 4, 1, api.Twice)
			}
		}
	}
	for _, key := range []string{"version", "revision", "within"} {
		expectFault(t, "[[lock]]\n"+key+" = \"\"\n"+key+" = \"a\"", 3, 1, api.Twice)
		expectFault(t, "[[lock]]\nroot = \"a\"\n"+key+" = \"a\"\n\n "+key+" = \"\"", 5, 2, api.Twice)
	}
}

// P601: at the quoted text of root and of source, what is no path, with nothing in it, too; whatever is behind it.
func TestNoPath(t *testing.T) {
	long := strings.Repeat("a", 40)
	for _, key := range []string{"root", "source"} {
		n := len(key)
		for _, s := range []string{"", "A", "a b", "/", "a/", "/a", "a//b", ".", "..", "a/../b", "a:b", " a", "a ", long + "a", "v1@", "~", "a\\n", "\\\"", "a#"} {
			for _, behind := range []string{"", " # x", " x", "\x00", "\"", "\n\x00"} {
				expectBelow(t, key+" = \""+s+"\""+behind, n+4, api.BadPath)
				expectBelow(t, "\t"+key+"=\t\t\""+s+"\""+behind, n+5, api.BadPath)
			}
		}
	}
	for _, s := range []string{"a", "a/b", "a.b/c_d/v2", "-", "...", long} {
		expectLocks(t, "[[lock]]\nroot = \""+s+"\"\nversion = \"v\"", api.Lock{Root: s, Version: "v"})
		expectLocks(t, "[[lock]]\nsource = \""+s+"\"\nversion = \"v\"\nroot = \"a\"", api.Lock{Root: "a", Version: "v", Source: s})
	}
	// The others may be no paths.
	expectLocks(t, "[[lock]]\nroot = \"a\"\nversion = \"A\"\nrevision = \" \"\nwithin = \"//\"", api.Lock{Root: "a", Version: "A", Rev: " ", Within: "//"})
}

// expectUnended fails unless the lock that s tells is wrong where it ends: at the next header, and at the text's end.
func expectUnended(t *testing.T, s string, e api.Errno) {
	t.Helper()
	lines := strings.Count(s, "\n")
	expectFault(t, s, lines+1, 1, e)
	expectFault(t, s+"\n\t# x", lines+2, 5, e)
	expectFault(t, s+" ", lines+1, 2, e)
	last := strings.TrimSuffix(s, "\n")
	expectFault(t, last, lines, len(last)-strings.LastIndexByte(last, '\n'), e)
	for _, next := range []string{"[[lock]]", "[[lock]]\nroot = \"b\"\nversion = \"v\"\n", "[[lock]] x", "[[lock]]\x00", "[[lock]]\n[[lock]]", "[[lock]]\nx"} {
		expectFault(t, s+next, lines+1, 1, e)
		expectFault(t, s+"# x\n \t"+next, lines+2, 3, e)
	}
	// What is wrong ahead of the lock's end is told first: a header that is none, too.
	expectFault(t, s+"x", lines+1, 1, api.BadText)
	expectFault(t, s+"[[lock", lines+1, 7, api.BadText)
	expectFault(t, s+" [[Lock]]\n", lines+1, 4, api.BadText)
	expectFault(t, s+"#\x00", lines+1, 2, api.BadText)
	expectFault(t, s+"#\xff\n[[lock]]", lines+1, 2, api.BadText)
}

// P601: a lock with no root, with neither a version nor a revision, or with empty ones.
func TestLockThatLacks(t *testing.T) {
	for _, lines := range []string{
		"", "\n", "root = \"a\"\n", "version = \"v\"\n", "revision = \"r\"\n", "version = \"v\"\nrevision = \"r\"\nwithin = \"w\"\nsource = \"c\"\n",
		"root = \"a\"\nversion = \"\"\n", "root = \"a\"\nrevision = \"\"\n", "version = \"\"\nroot = \"a\"\nrevision = \"\"\n", "root = \"a\"\nwithin = \"w\"\nsource = \"c\"\n", "within = \"\"\n", "version = \"\"\n",
		"source = \"a\"\nversion = \"v\"\n", "# root = \"a\"\nversion = \"v\"\n", "root = \"a\" # version = \"v\"\n",
	} {
		expectUnended(t, "[[lock]]\n"+lines, api.BadText)
		expectUnended(t, "\n [[lock]] # x\n"+lines, api.BadText)
		expectUnended(t, "[[lock]]\nroot = \"z\"\nversion = \"v\"\n[[lock]]\n"+lines, api.BadText)
	}
}

// P601: a root that is one's ahead, next to it or not, whatever else both tell.
func TestRootTwice(t *testing.T) {
	again := "[[lock]]\nrevision = \"other\"\nsource = \"b\"\nroot = \"a\"\n"
	expectUnended(t, right+right, api.Twice)
	expectUnended(t, right+again, api.Twice)
	expectUnended(t, again+right, api.Twice)
	expectUnended(t, right+rows(5)+again, api.Twice)
	expectUnended(t, rows(5)+right+again, api.Twice)
	expectUnended(t, rows(39)+rows(1), api.Twice)
	expectUnended(t, rows(38)+right+again, api.Twice)
	// One that lacks a version is so ahead of that.
	expectUnended(t, right+"[[lock]]\nroot = \"a\"\n", api.BadText)
	expectUnended(t, right+"[[lock]]\nroot = \"a\"\nversion = \"\"\n", api.BadText)
	expectLocks(t, right+"[[lock]]\nroot=\"a/v2\"\nversion=\"v\"\nsource=\"a\"\n[[lock]]\nroot=\"aa\"\nrevision=\"a\"\nsource=\"a\"", lockA, api.Lock{Root: "a/v2", Version: "v", Source: "a"}, api.Lock{Root: "aa", Rev: "a", Source: "a"})
}

// P601: forty locks, and the forty-first at its header.
func TestForty(t *testing.T) {
	for _, n := range []int{1, 2, 39, 40} {
		expectLocks(t, rows(n), row(n)...)
	}
	for _, behind := range []string{"[[lock]]", "[[lock]]\n", "[[lock]] x", "[[lock]][[lock]]", "[[lock]]\nx", right, rows(1), rows(40), "[[lock]]\x00"} {
		expectFault(t, rows(40)+behind, 121, 1, api.TooLong)
		expectFault(t, rows(40)+"# x\n\t\t"+behind, 122, 3, api.TooLong)
	}
	for _, n := range []int{41, 42, 80} {
		expectFault(t, rows(n), 121, 1, api.TooLong)
	}
	// What is wrong with the fortieth is told first, at that place too.
	expectFault(t, rows(39)+rows(2), 121, 1, api.Twice)
	expectFault(t, rows(39)+"[[lock]]\nroot = \"a\"\n\n"+right, 121, 1, api.BadText)
	expectFault(t, rows(39)+"[[lock]]\nversion = \"a\"\n\n"+right, 121, 1, api.BadText)
	expectFault(t, rows(39)+"[[lock]]\nversion = \"a\"\n\n [[lock]", 121, 9, api.BadText)
	expectFault(t, rows(40)+"[[lock}]", 121, 7, api.BadText)
	expectFault(t, rows(40)+"root = \"a\"\n[[lock]]", 121, 1, api.Twice)
	expectFault(t, rows(40)+"within = \"a\"\n[[lock]]", 122, 1, api.TooLong)
}
