package ver_test

import (
	"math"
	"strings"
	"testing"

	"transhumance/api"
	"transhumance/ver"
)

const id12 = "0123456789ab"

// P203: what is made, behind none, behind a version, behind one with a Pre.
func TestPseudo(t *testing.T) {
	cases := []struct {
		behind string // "": none
		at     int
		id     string
		want   string
	}{
		{"", 20200102030405, id12, "v0.0.0-20200102030405-0123456789ab"},
		{"", 0, id12, "v0.0.0-00000000000000-0123456789ab"},
		{"", 7, id12, "v0.0.0-00000000000007-0123456789ab"},
		{"", 99999999999999, id12, "v0.0.0-99999999999999-0123456789ab"},
		{"v0.0.0", 7, id12, "v0.0.1-0.00000000000007-0123456789ab"},
		{"v1.2.3", 20200102030405, id12, "v1.2.4-0.20200102030405-0123456789ab"},
		{"v1.2.9", 1, id12, "v1.2.10-0.00000000000001-0123456789ab"},
		{"v999999.999999.999998", 1, id12, "v999999.999999.999999-0.00000000000001-0123456789ab"},
		{"v1.2.3-rc.1", 10, id12, "v1.2.3-rc.1.0.00000000000010-0123456789ab"},
		{"v1.2.3-0", 10, id12, "v1.2.3-0.0.00000000000010-0123456789ab"},
		{"v1.2.999999-a", 10, id12, "v1.2.999999-a.0.00000000000010-0123456789ab"},
		{"v1.2.3-abcdefghij", 10, id12, "v1.2.3-abcdefghij.0.00000000000010-0123456789ab"},
	}
	for _, k := range cases {
		var v api.Ver
		if k.behind != "" {
			v = parsed(t, k.behind)
		}
		got, is := ver.Pseudo(k.behind != "", v, k.at, k.id)
		if want := parsed(t, k.want); !is || got != want || !ver.Right(got) {
			t.Errorf("Pseudo(%q, %d, %s): %v, %v, want %v", k.behind, k.at, k.id, got, is, want)
		}
	}
}

// P203: of 12 to 40 signs of an id, the first 12 are told.
func TestPseudoIds(t *testing.T) {
	const all = "0123456789abcdeffedcba98765432100a1b2c3d4e5f"
	for n := range len(all) + 1 {
		want := api.Ver{}
		if n >= 12 && n <= 40 {
			want.Pre = "00000000000005-0123456789ab"
		}
		if got, is := ver.Pseudo(false, api.Ver{}, 5, all[:n]); is != (want.Pre != "") || got != want {
			t.Errorf("Pseudo of %d signs: %v, %v", n, got, is)
		}
	}
	for b := range 256 {
		one := string([]byte{byte(b)})
		want := strings.Contains("0123456789abcdef", one)
		for _, id := range []string{one + id12[1:], id12[:5] + one + id12[6:], id12[:11] + one, id12 + one, id12 + id12 + one} {
			if got, is := ver.Pseudo(false, api.Ver{}, 5, id); is != want || !is && got != (api.Ver{}) {
				t.Errorf("Pseudo of id %q: %v, %v", id, got, is)
			}
		}
	}
}

// P203, P9: a time is 0 to 10^14 - 1.
func TestPseudoTimes(t *testing.T) {
	for at, want := range map[int]string{
		0: "00000000000000", 9: "00000000000009", 10: "00000000000010", 9999999999999: "09999999999999", 10000000000000: "10000000000000", 99999999999999: "99999999999999",
		100000000000000: "", 100000000000001: "", -1: "", -99999999999999: "", math.MaxInt: "", math.MinInt: "", 1 << 62: "",
	} {
		got, is := ver.Pseudo(false, api.Ver{}, at, id12)
		if is != (want != "") || is && got != (api.Ver{Pre: want + "-" + id12}) || !is && got != (api.Ver{}) {
			t.Errorf("Pseudo at %d: %v, %v", at, got, is)
		}
	}
}

// P203: false, if what would be made is not right, or the time or the id is none, whatever it is behind.
func TestPseudoOfNone(t *testing.T) {
	for _, k := range []struct {
		behind string
		at     int
		id     string
	}{
		{"v1.2.999999", 7, id12}, {"v0.0.999999", 7, id12}, {"v999999.999999.999999", 7, id12},
		{"v1.2.3-abcdefghijk", 7, id12}, {"v1.2.3-a.b.c.d.e.f", 7, id12}, {"v1.2.3-" + strings.Repeat("a", 40), 7, id12},
		{"v1.2.3", -1, id12}, {"v1.2.3-a", 100000000000000, id12},
		{"v1.2.3", 7, id12[:11]}, {"v1.2.3-a", 7, strings.Repeat("a", 41)}, {"v1.2.3", 7, ""}, {"v1.2.3-a", 7, "0123456789aB"},
		{"v0.0.1-0.00000000000007-0123456789ab", 7, id12},
	} {
		if got, is := ver.Pseudo(true, parsed(t, k.behind), k.at, k.id); is || got != (api.Ver{}) {
			t.Errorf("Pseudo(%s, %d, %s): %v, %v", k.behind, k.at, k.id, got, is)
		}
	}
}

// P203: Behind tells what Pseudo was given; of the id the first 12.
func TestBehindOfPseudo(t *testing.T) {
	for _, s := range []string{"", "v0.0.0", "v1.2.3", "v1.2.3-a", "v1.2.3-rc.1", "v1.2.3-0", "v0.0.0-a-b"} {
		for _, at := range []int{0, 1, 20200102030405, 99999999999999} {
			for _, id := range []string{id12, "ffffffffffff0", strings.Repeat("0", 40)} {
				var v api.Ver
				if s != "" {
					v = parsed(t, s)
				}
				p, is := ver.Pseudo(s != "", v, at, id)
				if !is {
					t.Fatalf("Pseudo(%s, %d, %s): false", s, at, id)
				}
				if gotAt, gotId, is := ver.Behind(p); !is || gotAt != at || gotId != id[:12] {
					t.Errorf("Behind(%v): %d, %s, %v", p, gotAt, gotId, is)
				}
			}
		}
	}
}

// P203: the last word alone counts, whatever stands ahead of it.
func TestBehindOfLastWord(t *testing.T) {
	for pre, want := range map[string]bool{
		"00000000000012-0123456789ab":       true,
		"0.00000000000012-0123456789ab":     true,
		"a.00000000000012-0123456789ab":     true,
		"a.b.1.00000000000012-0123456789ab": true,
		"-.00000000000012-0123456789ab":     true,
		"":                                  false,
		"a":                                 false,
		"0":                                 false,
		"-":                                 false,
		"00000000000012-0123456789ab.0":     false,
		"00000000000012-0123456789ab.a":     false,
		"00000000000012-":                   false,
		"-0123456789ab":                     false,
		"10000000000012":                    false,
		"0.10000000000012":                  false,
		"0000000000012-0123456789ab":        false,
		"000000000000012-0123456789ab":      false,
		"00000000000012-0123456789a":        false,
		"00000000000012-0123456789abc":      false,
		"00000000000012--0123456789ab":      false,
		"00000000000012-0123456789a-":       false,
		"00000000000012-0123456-89ab":       false,
		"0000000000001a-0123456789ab":       false,
		"-0000000000012-0123456789ab":       false,
		"0000000-000012-0123456789ab":       false,
		"00000000000012-0123456789aB":       false,
		"00000000000012-0123456789ag":       false,
		"a00000000000012-0123456789ab":      false,
		"a-00000000000012-0123456789ab":     false,
		"10000000000012.0123456789ab":       false,
		"00000000000012a0123456789ab":       false,
		"0.00000000000012-0123456789abcdef": false,
	} {
		v := api.Ver{A: 1, B: 2, C: 3, Pre: pre}
		if !ver.Right(v) {
			t.Errorf("the case %q is not right", pre)
		}
		at, id, is := ver.Behind(v)
		if is != want || is && (at != 12 || id != id12) || !is && (at != 0 || id != "") {
			t.Errorf("Behind of Pre %q: %d, %q, %v", pre, at, id, is)
		}
	}
}

// P204: a pseudo version is more than what it is behind, and less than the next one; of two behind one, the later is more.
func TestPseudoStandsBetween(t *testing.T) {
	for _, k := range []struct{ behind, next string }{
		{"v0.0.0", "v0.0.1"}, {"v1.2.3", "v1.2.4"}, {"v1.2.9", "v1.2.10"}, {"v1.2.999998", "v1.2.999999"},
		{"v1.2.3", "v1.2.4-1"}, {"v1.2.3", "v1.2.4-a"}, {"v1.2.3", "v1.3.0-0"}, {"v1.2.3", "v2.0.0-0"},
		{"v1.2.3-0", "v1.2.3"}, {"v1.2.3-0", "v1.2.3-1"}, {"v1.2.3-rc.1", "v1.2.3"}, {"v1.2.3-rc.1", "v1.2.3-rc.2"}, {"v1.2.3-rc", "v1.2.3-rc.1"}, {"v1.2.3-a", "v1.2.3-a-"}, {"v1.2.3-a", "v1.2.3-aa"},
	} {
		v, next := parsed(t, k.behind), parsed(t, k.next)
		below := v
		for _, at := range []int{0, 1, 9, 10, 20200102030405, 99999999999999} {
			p, is := ver.Pseudo(true, v, at, id12)
			if !is || ver.Cmp(v, p) != -1 || ver.Cmp(p, next) != -1 || ver.Cmp(below, p) != -1 {
				t.Errorf("%s, %v, %s, behind %v", k.behind, p, k.next, below)
			}
			below = p
		}
	}
}

// P204: behind none it is less than the first version, and more than the least one.
func TestPseudoBehindNone(t *testing.T) {
	for _, at := range []int{0, 1, 99999999999999} {
		p, is := ver.Pseudo(false, api.Ver{}, at, id12)
		if !is || ver.Cmp(p, api.Ver{}) != -1 || ver.Cmp(api.Ver{Pre: "0"}, p) != -1 {
			t.Errorf("%v, %v", p, is)
		}
	}
}
