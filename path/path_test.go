package path_test

import (
	"math"
	"regexp"
	"strconv"
	"strings"
	"testing"

	"transhumance/api"
	"transhumance/path"
)

// The face of the package: this stops compiling if a signature changes.
var (
	_ func(string) bool                              = path.Right
	_ func(string) (string, int)                     = path.Major
	_ func(string, api.Ver) bool                     = path.Fits
	_ func(string, string) bool                      = path.Within
	_ func([]string, string, api.Ver) (string, bool) = path.Find
)

// pathBytes are the bytes that may be in a word.
const pathBytes = "abcdefghijklmnopqrstuvwxyz0123456789.-_"

// oddTexts are texts that are no paths.
func oddTexts() []string {
	return []string{
		"", "/", "//", "///", ".", "..", "./", "../", "/.", "/..", "/v2", "//v2", "a//v2", "a/v+2", "a/v-2/", "a/v 2", "a/v2\n",
		"\x00", "\xff", "a\xff/v2", "\xff/v2", "\u00e9", "a/\u00e9", "\xc3", "a/v\u0662", "a/v2_0/", "A/v2", " ", "a b", "\t", "\n",
		"a/v" + strings.Repeat("9", 5000), "a/v" + strings.Repeat("0", 5000), strings.Repeat("/", 5000), strings.Repeat("a/", 5000), strings.Repeat("a", 41), strings.Repeat("a/v2/", 5000) + "v2",
	}
}

// expectRight fails unless Right answers want.
func expectRight(t *testing.T, s string, want bool) {
	t.Helper()
	if got := path.Right(s); got != want {
		t.Errorf("Right(%.99q): %v", s, got)
	}
}

// P401: 1 to 40 bytes.
func TestRightLength(t *testing.T) {
	for n := range 100 {
		want := n >= 1 && n <= 40
		expectRight(t, strings.Repeat("a", n), want)
		expectRight(t, strings.Repeat(".", n), want && n > 2)
		if n > 2 {
			expectRight(t, "a/"+strings.Repeat("z", n-2), want)
			expectRight(t, strings.Repeat("-", n-2)+"/_", want)
		}
	}
	expectRight(t, strings.Repeat("a/", 19)+"a", true)
	expectRight(t, strings.Repeat("a/", 19)+"aa", true)
	expectRight(t, strings.Repeat("a/", 20), false)
	expectRight(t, strings.Repeat("a/", 20)+"a", false)
	expectRight(t, strings.Repeat("a", 1<<20), false)
	expectRight(t, strings.Repeat("a", 256+40), false)
}

// P401: of all bytes only a to z, 0 to 9, . - _ stand in a word, wherever in it.
func TestRightBytes(t *testing.T) {
	for b := range 256 {
		one := string([]byte{byte(b)})
		in := strings.Contains(pathBytes, one)
		expectRight(t, one, in && one != ".")
		expectRight(t, "x/"+one, in && one != ".")
		expectRight(t, one+"/x", in && one != ".")
		expectRight(t, "x"+one+"x", in || one == "/")
		expectRight(t, "x"+one, in)
		expectRight(t, one+"x", in)
		expectRight(t, "w/x"+one+"/y", in)
	}
}

// P401: no word is empty, ., or ..; dots beside others may stand.
func TestRightWords(t *testing.T) {
	for word, want := range map[string]bool{
		"": false, ".": false, "..": false,
		"...": true, "....": true, ".a": true, "..a": true, "a.": true, "a..": true, "a..b": true, ".-": true, "._": true, ".0.": true, "-.": true, "-": true, "_": true, "0": true, "v2": true, "v": true,
		" ": false, "a b": false, ". ": false, "A": false, "aB": false, "a:b": false, "a\\b": false, "a@v1": false, "~a": false, "a+b": false, "\u00e9": false, "\xe9": false, "\u212a": false,
	} {
		expectRight(t, word, want)
		expectRight(t, word+"/a", want)
		expectRight(t, "a/"+word, want)
		expectRight(t, "a/"+word+"/b", want)
		expectRight(t, word+"/"+word, want)
		expectRight(t, word+"/"+word+"/"+word, want)
	}
	for _, s := range oddTexts() {
		expectRight(t, s, false)
	}
}

// texts answers all texts of up to n of the bytes.
func texts(bytes string, n int) []string {
	out := []string{""}
	for from, at := 0, 0; at < n; at++ {
		to := len(out)
		for _, s := range out[from:to] {
			for i := range len(bytes) {
				out = append(out, s+bytes[i:i+1])
			}
		}
		from = to
	}
	return out
}

// P401: Right of all short texts, by the words of the chapter.
func TestRightOfAllShortTexts(t *testing.T) {
	form := regexp.MustCompile(`\A[a-z0-9._-]+(/[a-z0-9._-]+)*\z`)
	dots := regexp.MustCompile(`(\A|/)\.\.?(/|\z)`)
	for _, s := range texts("a./9A", 6) {
		expectRight(t, s, form.MatchString(s) && !dots.MatchString(s))
	}
}

// expectMajor fails unless Major answers just these.
func expectMajor(t *testing.T, s, root string, major int) {
	t.Helper()
	if r, n := path.Major(s); r != root || n != major {
		t.Errorf("Major(%q): %q, %d, want %q, %d", s, r, n, root, major)
	}
}

// P401: paths that end with a major number.
func TestMajor(t *testing.T) {
	expectMajor(t, "a/v2", "a", 2)
	expectMajor(t, "a/b/c/v3", "a/b/c", 3)
	expectMajor(t, "v2/v2", "v2", 2)
	expectMajor(t, "a/v2/v3", "a/v2", 3)
	expectMajor(t, "a/v1/v2", "a/v1", 2)
	expectMajor(t, "v/v9", "v", 9)
	expectMajor(t, "a.b/v.2/v10", "a.b/v.2", 10)
	expectMajor(t, "a/v100", "a", 100)
	for _, n := range []int{2, 3, 9, 10, 11, 19, 20, 99, 100, 101, 65535, 65536, 99999, 100000, 999998, 999999} {
		expectMajor(t, "x/y/v"+strconv.Itoa(n), "x/y", n)
	}
}

// P401: paths that end with none.
func TestMajorOfNone(t *testing.T) {
	for _, s := range []string{
		"a", "v", "v0", "v1", "v2", "v999999", "a.b", "a/b", "a/b/c",
		"a/v", "a/v0", "a/v1", "a/v00", "a/v01", "a/v02", "a/v002", "a/v010", "a/v0999999", "a/v000002",
		"a/v1000000", "a/v1000002", "a/v9999999", "a/v2000000", "a/v4294967298", "a/v18446744073709551618", "a/v99999999999999999999999999",
		"a/v2x", "a/vx2", "a/xv2", "a/vv2", "a/v2v", "a/v2.", "a/v2.0", "a/v.2", "a/v-2", "a/v2-", "a/v_2", "a/v2_0", "a/v0x2", "a/v2e1", "a/2", "a/22", "a/.v2", "a/-v2", "a.v2", "a-v2", "av2", "a/bv2",
		"a/v2/b", "v2/b", "v2/a/b", "a/v2/v1", "a/v2/v", "a/v2/v02", "v3/v2/a", "a/v2/v1000000",
	} {
		if !path.Right(s) {
			t.Errorf("Right(%q): false", s)
		}
		expectMajor(t, s, s, 0)
	}
}

// P401: Major of all short paths, by the words of the chapter.
func TestMajorOfAllShortPaths(t *testing.T) {
	form := regexp.MustCompile(`\A(.+)/v([1-9][0-9]*)\z`)
	for _, s := range texts("v/021.", 7) {
		if !path.Right(s) {
			continue
		}
		root, major := s, 0
		if m := form.FindStringSubmatch(s); m != nil && m[2] != "1" {
			root = m[1]
			major, _ = strconv.Atoi(m[2])
		}
		expectMajor(t, s, root, major)
	}
}

// P401: A is Major's, or 0 or 1 of a Major of 0.
func TestFits(t *testing.T) {
	majors := map[string]int{
		"a": 0, "v2": 0, "v0": 0, "a/b": 0, "a/v0": 0, "a/v1": 0, "a/v02": 0, "a/v2/b": 0, "a/v1000000": 0, "a/v": 0, "a/v2/v1": 0,
		"a/v2": 2, "a/b/v2": 2, "a/v3/v2": 2, "a/v3": 3, "a/v10": 10, "a/v11": 11, "a/v999999": 999999,
	}
	for s, major := range majors {
		for _, a := range []int{0, 1, 2, 3, 4, 9, 10, 11, 12, 999998, 999999} {
			want := a == major || major == 0 && a == 1
			for _, v := range []api.Ver{{A: a}, {A: a, B: 2, C: 3}, {A: a, Pre: "rc.1"}, {A: a, B: 999999, C: 999999, Pre: "0"}} {
				if got := path.Fits(s, v); got != want {
					t.Errorf("Fits(%q, %v): %v", s, v, got)
				}
			}
		}
	}
}

// P401: s is root, or begins with root and a slash; any texts.
func TestWithin(t *testing.T) {
	for _, x := range []struct {
		s, root string
		want    bool
	}{
		{"a", "a", true}, {"a/b", "a", true}, {"a/b/c", "a", true}, {"a/b/c", "a/b", true}, {"a/b/c", "a/b/c", true},
		{"a/", "a", true}, {"a//", "a", true}, {"a//b", "a", true}, {"a//b", "a/", true}, {"a/b", "a/", false}, {"a/", "a/", true},
		{"ab", "a", false}, {"a.b", "a", false}, {"a-b", "a", false}, {"a0", "a", false}, {"a/bc", "a/b", false}, {"a/b.c/d", "a/b", false}, {"a\\b", "a", false}, {"a\x00", "a", false},
		{"a", "a/b", false}, {"a", "ab", false}, {"a", "b", false}, {"b/a", "a", false}, {"x/a/b", "a", false}, {"/a", "a", false}, {"a", "/a", false}, {"A/b", "a", false},
		{"", "", true}, {"/", "", true}, {"/a", "", true}, {"//", "", true}, {"a", "", false}, {"a/b", "", false}, {"", "a", false}, {"", "/", false}, {"/", "/", true}, {"//", "/", true}, {"/a", "/", false},
		{"\xff/a", "\xff", true}, {"\xff", "\xff", true}, {"\u00e9", "\xc3", false}, {"\xc3/", "\u00e9", false}, {"a b/c", "a b", true}, {"a\n", "a", false}, {"a\n/", "a\n", true},
		{strings.Repeat("a", 5000) + "/", strings.Repeat("a", 5000), true}, {strings.Repeat("a", 5001), strings.Repeat("a", 5000), false},
		{"a/v2", "a", true}, {"a", "a/v2", false},
	} {
		if got := path.Within(x.s, x.root); got != x.want {
			t.Errorf("Within(%.99q, %.99q): %v", x.s, x.root, got)
		}
	}
}

// P401: Within of any two short texts, by the words of the chapter.
func TestWithinOfAllShortTexts(t *testing.T) {
	all := texts("a/.", 4)
	for _, s := range all {
		for _, root := range all {
			want := s == root || strings.HasPrefix(s, root+"/")
			if got := path.Within(s, root); got != want {
				t.Errorf("Within(%q, %q): %v", s, root, got)
			}
		}
	}
}

// P1: whatever is handed in, no call panics.
func TestWrongInputs(t *testing.T) {
	odd := oddTexts()
	for _, s := range odd {
		path.Major(s)
		for _, a := range []int{math.MinInt, -2, -1, 0, 1, 2, 1000000, math.MaxInt} {
			v := api.Ver{A: a, B: -1, C: math.MaxInt, Pre: "\xff.."}
			path.Fits(s, v)
			if p, is := path.Find(odd, s, v); !is && p != "" {
				t.Errorf("Find(%.99q, %v): %q, false", s, v, p)
			}
		}
	}
}
