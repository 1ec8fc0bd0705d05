package ver_test

import (
	"math"
	"slices"
	"strings"
	"testing"

	"transhumance/api"
	"transhumance/ver"
)

// The face of the package: this stops compiling if a signature changes.
var (
	_ func(api.Ver) bool                               = ver.Right
	_ func(string) (api.Ver, bool)                     = ver.Parse
	_ func(api.Ver) string                             = ver.Text
	_ func(api.Ver, api.Ver) int                       = ver.Cmp
	_ func(...api.Ver) api.Ver                         = ver.Max
	_ func(bool, api.Ver, int, string) (api.Ver, bool) = ver.Pseudo
	_ func(api.Ver) (int, string, bool)                = ver.Behind
)

const allLetters = "abcdefghijklmnopqrstuvwxyzABCDEFGHIJKLMNOPQRSTUVWXYZ"

// parsed is the version of a text that is one.
func parsed(t *testing.T, s string) api.Ver {
	t.Helper()
	v, is := ver.Parse(s)
	if !is {
		t.Fatalf("Parse(%q): false", s)
	}
	return v
}

// expectParsed fails unless s is the text of want, a right version, there and back.
func expectParsed(t *testing.T, s string, want api.Ver) {
	t.Helper()
	if !ver.Right(want) {
		t.Errorf("Right(%v): false", want)
	}
	if got := ver.Text(want); got != s {
		t.Errorf("Text(%v): %q, want %q", want, got, s)
	}
	if got, is := ver.Parse(s); !is || got != want {
		t.Errorf("Parse(%q): %v, %v, want %v", s, got, is, want)
	}
}

// expectNone fails if s is the text of a version.
func expectNone(t *testing.T, s string) {
	t.Helper()
	if v, is := ver.Parse(s); is || v != (api.Ver{}) {
		t.Errorf("Parse(%q): %v, %v, want none", s, v, is)
	}
}

// P201, T4: the texts of right versions.
func TestTextsOfRightVersions(t *testing.T) {
	long := strings.Repeat("a", 40)
	for s, want := range map[string]api.Ver{
		"v1.2.3":                             {A: 1, B: 2, C: 3},
		"v0.0.0":                             {},
		"v10.20.30":                          {A: 10, B: 20, C: 30},
		"v999999.0.0":                        {A: 999999},
		"v0.999999.0":                        {B: 999999},
		"v0.0.999999":                        {C: 999999},
		"v999999.999999.999999":              {A: 999999, B: 999999, C: 999999},
		"v1.2.3-a":                           {A: 1, B: 2, C: 3, Pre: "a"},
		"v0.0.0-0":                           {Pre: "0"},
		"v0.0.0--":                           {Pre: "-"},
		"v1.2.3-rc.1":                        {A: 1, B: 2, C: 3, Pre: "rc.1"},
		"v1.2.3-0.0.0":                       {A: 1, B: 2, C: 3, Pre: "0.0.0"},
		"v1.2.3-a-b.c--d.-9.9-":              {A: 1, B: 2, C: 3, Pre: "a-b.c--d.-9.9-"},
		"v1.2.3-0a.00-.-01.0x0":              {A: 1, B: 2, C: 3, Pre: "0a.00-.-01.0x0"},
		"v1.2.3-v4.5.6":                      {A: 1, B: 2, C: 3, Pre: "v4.5.6"},
		"v0.0.1-" + long:                     {C: 1, Pre: long},
		"v0.0.1-a" + long[:37] + ".0":        {C: 1, Pre: "a" + long[:37] + ".0"},
		"v0.0.1-1" + strings.Repeat("0", 39): {C: 1, Pre: "1" + strings.Repeat("0", 39)},
	} {
		expectParsed(t, s, want)
	}
}

// P201: what is no text of a right version.
func TestTextsOfNone(t *testing.T) {
	for _, s := range []string{
		"", "v", "-", ".", "..", "v..", "v-", "v.", "v--", "x",
		"1.2.3", "V1.2.3", "vv1.2.3", " v1.2.3", "v1.2.3 ", "v 1.2.3", "v1.2.3\n", "\tv1.2.3", "v1. 2.3",
		"v1", "v1.", "v1.2", "v1.2.", "v1..3", "v.2.3", "v1.2.3.", "v1.2.3.4", "v1.2.3.0", "v1.2.3..",
		"v1-a", "v1.2-a", "v1.2.-a", "v-a.2.3", "v-1.2.3", "v1.-2.3", "v1.2.-3", "v+1.2.3", "v1.+2.3", "v1.2.+3",
		"v01.2.3", "v1.02.3", "v1.2.03", "v00.0.0", "v0.00.0", "v0.0.00", "v000001.0.0",
		"v1000000.0.0", "v0.1000000.0", "v0.0.1000000", "v0.0.99999999999999999999999999", "v0.0.9223372036854775808", "v0.0.18446744073709551616", "v4294967297.0.0",
		"v0x1.2.3", "v1_0.2.3", "v1e1.2.3", "va.b.c", "v1.2.x", "v1.2.3a", "v\u0661.2.3", "v\xff.2.3",
		"v1.2.3-", "v1.2.3-.", "v1.2.3-a.", "v1.2.3-.a", "v1.2.3-a..b", "v1.2.3-...",
		"v1.2.3-00", "v1.2.3-01", "v1.2.3-a.01", "v1.2.3-01.a", "v1.2.3-1.00.1", "v1.2.3-0123456789",
		"v1.2.3+b", "v1.2.3-a+b", "v1.2.3-a_b", "v1.2.3-a b", "v1.2.3-a/b", "v1.2.3-a:b", "v1.2.3-a\n", "v1.2.3-\x00", "v1.2.3-\u00e9", "v1.2.3-\xff", "v1.2.3-a,b",
		"v1.2.3-" + strings.Repeat("a", 41), "v1.2.3-" + strings.Repeat("a.", 20) + "a", "v1.2.3-" + strings.Repeat("a", 9000),
		strings.Repeat("v1.2.3", 2000), strings.Repeat(".", 8000), "v" + strings.Repeat("0", 8000) + ".0.0",
	} {
		expectNone(t, s)
	}
}

// P201: whatever is cut from, or put into, a version's text, Parse takes just the texts of right ones.
func TestParseTakesTextsAlone(t *testing.T) {
	s := "v10.2.30-a.0.b-1.12"
	for at := range len(s) + 1 {
		for _, put := range []string{"", "0", "1", "v", ".", "-", "+", " ", "\x80", "A"} {
			for _, drop := range []int{0, 1} {
				near := s[:at] + put + s[min(at+drop, len(s)):]
				v, is := ver.Parse(near)
				if is && (!ver.Right(v) || ver.Text(v) != near) || !is && v != (api.Ver{}) {
					t.Errorf("Parse(%q): %v, %v", near, v, is)
				}
			}
		}
	}
}

// P201: each part is 0 to 999999.
func TestRightParts(t *testing.T) {
	for n, want := range map[int]bool{
		0: true, 1: true, 999998: true, 999999: true,
		1000000: false, -1: false, -999999: false, math.MaxInt: false, math.MinInt: false, 1 << 32: false, 1<<32 + 1: false,
	} {
		for _, v := range []api.Ver{{A: n}, {B: n}, {C: n}, {A: n, Pre: "a"}, {A: 1, B: n, C: 1, Pre: "0"}} {
			if ver.Right(v) != want {
				t.Errorf("Right(%v): %v", v, !want)
			}
		}
	}
}

// P201: a Pre is nothing, or words of 40 bytes in all.
func TestRightPre(t *testing.T) {
	for pre, want := range map[string]bool{
		"": true, "a": true, "Z": true, "-": true, "9": true, "0": true, "a.b": true, "a.0": true, "0.a": true, "0.0": true, "1.10.100": true,
		"00": false, "01": false, "0.00": false, "a.09": false, "00.a": false, "a.00.b": false,
		"0a": true, "00a": true, "0-": true, "00-0": true, "-00": true, "10": true,
		".": false, "..": false, ".a": false, "a.": false, "a..b": false, "a.b.": false,
		strings.Repeat("z", 39): true, strings.Repeat("z", 40): true, strings.Repeat("z", 41): false,
		strings.Repeat("9", 40): true, strings.Repeat("9", 41): false, strings.Repeat("0", 40): false,
		strings.Repeat("z.", 19) + "z": true, strings.Repeat("z.", 19) + "zz": true, strings.Repeat("z.", 20): false, strings.Repeat("z.", 20) + "z": false,
		strings.Repeat("z", 100000): false,
	} {
		if got := ver.Right(api.Ver{A: 1, Pre: pre}); got != want {
			t.Errorf("Right of Pre %q: %v", pre, got)
		}
	}
}

// P201: of all bytes only letters, digits and - stand in a word, wherever in it.
func TestRightBytes(t *testing.T) {
	for b := range 256 {
		one := string([]byte{byte(b)})
		want := strings.Contains(allLetters+"0123456789-", one)
		for _, pre := range []string{one, "a" + one, one + "a", "b." + one, "b." + one + "a.c"} {
			if got := ver.Right(api.Ver{Pre: pre}); got != want {
				t.Errorf("Right of Pre %q: %v", pre, got)
			}
		}
	}
}

// rising is versions in order, each less than the next.
var rising = []string{
	"v0.0.0-0", "v0.0.0-0.0", "v0.0.0-0.1", "v0.0.0-0.a", "v0.0.0-1", "v0.0.0-2", "v0.0.0-9", "v0.0.0-10", "v0.0.0-11", "v0.0.0-100",
	"v0.0.0-9223372036854775807", "v0.0.0-9223372036854775808", "v0.0.0-18446744073709551615", "v0.0.0-18446744073709551617",
	"v0.0.0-999999999999999999999999999999999999999", "v0.0.0-1000000000000000000000000000000000000000", "v0.0.0-9000000000000000000000000000000000000000", "v0.0.0-9000000000000000000000000000000000000001",
	"v0.0.0--", "v0.0.0--.0", "v0.0.0--0", "v0.0.0--1", "v0.0.0-0-", "v0.0.0-00a", "v0.0.0-0a", "v0.0.0-10a", "v0.0.0-1a", "v0.0.0-9a", "v0.0.0-A", "v0.0.0-Z", "v0.0.0-a",
	"v0.0.0", "v0.0.1-0", "v0.0.1", "v0.0.2", "v0.0.10", "v0.0.999999",
	"v0.1.0-a", "v0.1.0", "v0.1.1", "v0.2.0", "v0.10.0", "v0.999999.999999",
	"v1.0.0-1", "v1.0.0-1.0", "v1.0.0-1.0.0", "v1.0.0-1.a", "v1.0.0-2.a", "v1.0.0-10.0", "v1.0.0-10.a", "v1.0.0-B", "v1.0.0-a", "v1.0.0-a.0", "v1.0.0-a.1", "v1.0.0-a.1.x", "v1.0.0-a.2", "v1.0.0-a.10", "v1.0.0-a.-", "v1.0.0-a.a", "v1.0.0-a-", "v1.0.0-a-.0", "v1.0.0-a0", "v1.0.0-a10", "v1.0.0-a9", "v1.0.0-aa", "v1.0.0-ab", "v1.0.0-b", "v1.0.0-b.0",
	"v1.0.0", "v1.0.1-a", "v1.0.1", "v1.1.0", "v2.0.0-0", "v2.0.0", "v10.0.0-a", "v10.0.0", "v100.0.0", "v999999.999999.999999-z", "v999999.999999.999999",
}

// P202: of any two.
func TestCmp(t *testing.T) {
	for i, s := range rising {
		for k, u := range rising {
			want := 0
			if i < k {
				want = -1
			} else if i > k {
				want = 1
			}
			if got := ver.Cmp(parsed(t, s), parsed(t, u)); got != want {
				t.Errorf("Cmp(%s, %s): %d, want %d", s, u, got, want)
			}
		}
	}
}

// P202: equal texts of different memory are one version.
func TestCmpOfCopies(t *testing.T) {
	a, b := api.Ver{A: 1, Pre: "rc.1"}, api.Ver{A: 1, Pre: strings.Join([]string{"rc", "1"}, ".")}
	if ver.Cmp(a, b) != 0 {
		t.Error("Cmp")
	}
}

// P202: the greatest, wherever it stands and however often.
func TestMax(t *testing.T) {
	last := len(rising) - 1
	for i := range rising {
		var l []api.Ver
		for k := range i + 1 {
			l = append(l, parsed(t, rising[(k*37+i)%(i+1)]))
		}
		want := parsed(t, rising[i])
		if !slices.Contains(l, want) {
			l = append(l, want)
		}
		for range l {
			l = append(l[1:], l[0])
			if got := ver.Max(l...); got != want {
				t.Fatalf("Max(%v): %v, want %v", l, got, want)
			}
		}
		if got := ver.Max(parsed(t, rising[last-i]), parsed(t, rising[last]), parsed(t, rising[last-i])); got != parsed(t, rising[last]) {
			t.Errorf("Max: %v", got)
		}
	}
}

// P202: zero of none; of one that one, though it is less than the zero version; of equal ones it.
func TestMaxOfFew(t *testing.T) {
	zero, less := api.Ver{}, api.Ver{Pre: "0"}
	if ver.Max() != zero || ver.Max(nil...) != zero || ver.Max([]api.Ver{}...) != zero {
		t.Error("Max of none")
	}
	if got := ver.Max(less); got != less {
		t.Errorf("Max of one: %v", got)
	}
	if got := ver.Max(less, less); got != less {
		t.Errorf("Max of one twice: %v", got)
	}
	if got := ver.Max(less, api.Ver{Pre: "a"}); got != (api.Ver{Pre: "a"}) {
		t.Errorf("Max of two: %v", got)
	}
}

// P2: Max leaves its list, and the room behind it, as they were.
func TestMaxChangesNothing(t *testing.T) {
	room := []api.Ver{{A: 2}, {A: 1, Pre: "a"}, {A: 3}, {A: 9}, {A: 8}}
	was := slices.Clone(room)
	if got := ver.Max(room[:3]...); got != (api.Ver{A: 3}) {
		t.Errorf("Max: %v", got)
	}
	if !slices.Equal(room, was) {
		t.Errorf("Max changed its list: %v", room)
	}
}

// some answers the k-th of many right versions that lie close together.
func some(k int) api.Ver {
	next := func(n int) int {
		k = (k*1103515245 + 12345) & math.MaxInt32
		return (k >> 8) % n
	}
	pick := []string{"0", "1", "9", "10", "11", "a", "aa", "b", "0a", "-", "A", "a-1", "99999999999999999999"}
	v := api.Ver{A: next(2), B: next(2), C: next(3)}
	var l []string
	for range next(4) {
		l = append(l, pick[next(len(pick))])
	}
	if v.Pre = strings.Join(l, "."); len(v.Pre) > 40 {
		v.Pre = ""
	}
	return v
}

// P202, W3, T4: Cmp is one order of all versions, and texts go there and back.
func TestOrderLaws(t *testing.T) {
	for k := range 20000 {
		a, b, c := some(3*k), some(3*k+1), some(3*k+2)
		expectParsed(t, ver.Text(a), a)
		ab, ba, bc, ac := ver.Cmp(a, b), ver.Cmp(b, a), ver.Cmp(b, c), ver.Cmp(a, c)
		if ab != -ba || (ab == 0) != (a == b) || ab < -1 || ab > 1 {
			t.Fatalf("Cmp(%v, %v): %d, %d", a, b, ab, ba)
		}
		if ab <= 0 && bc <= 0 && ac > 0 {
			t.Fatalf("Cmp of %v, %v, %v: %d, %d, %d", a, b, c, ab, bc, ac)
		}
		m := ver.Max(a, b, c)
		if (m != a && m != b && m != c) || ver.Cmp(m, a) < 0 || ver.Cmp(m, b) < 0 || ver.Cmp(m, c) < 0 {
			t.Fatalf("Max(%v, %v, %v): %v", a, b, c, m)
		}
	}
}

// P1: whatever versions are handed in, right or not, no call panics, and Right tells.
func TestWrongVersions(t *testing.T) {
	odd := []api.Ver{
		{}, {A: -1}, {B: math.MinInt}, {C: math.MaxInt}, {A: math.MaxInt, B: math.MaxInt, C: math.MaxInt, Pre: "a"},
		{Pre: "."}, {Pre: ".."}, {Pre: "..."}, {Pre: "\xff\xfe"}, {Pre: "\x00"}, {Pre: "00"}, {Pre: "000"}, {Pre: "-."}, {Pre: ".-"}, {Pre: "a..b"},
		{Pre: strings.Repeat(".", 5000)}, {Pre: strings.Repeat("0", 5000)}, {Pre: strings.Repeat("-", 5000)},
		{Pre: "\u00e9"}, {Pre: "00000000000000-."}, {Pre: "99999999999999-\xff\xff"},
	}
	for _, a := range odd {
		for _, b := range odd {
			ver.Cmp(a, b)
			ver.Max(a, b)
		}
		if ver.Right(a) != (a == api.Ver{}) {
			t.Errorf("Right(%v): %v", a, ver.Right(a))
		}
		ver.Text(a)
		ver.Behind(a)
		for _, has := range []bool{false, true} {
			if p, is := ver.Pseudo(has, a, 1, "0123456789ab"); is && !ver.Right(p) || !is && p != (api.Ver{}) {
				t.Errorf("Pseudo(%v, %v): %v, %v", has, a, p, is)
			}
		}
	}
}
