package span_test

import (
	"slices"
	"strings"
	"testing"

	"transhumance/api"
	"transhumance/span"
	"transhumance/ver"
)

// expectText fails unless s asks for just what want tells, normed.
func expectText(t *testing.T, s, want string) {
	t.Helper()
	l := parsed(t, s)
	expectNormed(t, l)
	if got := span.Text(l); got != want {
		t.Errorf("Parse(%q): %s, want %s", s, got, want)
	}
}

// expectWrong fails unless s is refused at at, with nothing beside the error.
func expectWrong(t *testing.T, s string, at int) {
	t.Helper()
	if l, got, e := span.Parse(s); e != api.BadRange || got != at || len(l) > 0 {
		t.Errorf("Parse(%q): %v, %d, %v, want BadRange at %d", s, l, got, e, at)
	}
}

// P301: what each sign asks for.
func TestSigns(t *testing.T) {
	for s, want := range map[string]string{
		"*":           "[v0.0.0-0,)",
		"v1.2.3":      "[v1.2.3,v1.2.3]",
		"=v1.2.3":     "[v1.2.3,v1.2.3]",
		"!=v1.2.3":    "[v0.0.0-0,v1.2.3) || (v1.2.3,)",
		">v1.2.3":     "(v1.2.3,)",
		">=v1.2.3":    "[v1.2.3,)",
		"<v1.2.3":     "[v0.0.0-0,v1.2.3)",
		"<=v1.2.3":    "[v0.0.0-0,v1.2.3]",
		"~v1.2.3":     "[v1.2.3,v1.3.0-0)",
		"~v0.0.0":     "[v0.0.0,v0.1.0-0)",
		"~v0.0.7-a":   "[v0.0.7-a,v0.1.0-0)",
		"~v1.2.3-0":   "[v1.2.3-0,v1.3.0-0)",
		"^v1.2.3":     "[v1.2.3,v2.0.0-0)",
		"^v1.0.0":     "[v1.0.0,v2.0.0-0)",
		"^v0.2.3":     "[v0.2.3,v0.3.0-0)",
		"^v0.2.0":     "[v0.2.0,v0.3.0-0)",
		"^v0.1.5":     "[v0.1.5,v0.2.0-0)",
		"^v0.0.1":     "[v0.0.1,v0.0.2-0)",
		"^v0.0.3":     "[v0.0.3,v0.0.4-0)",
		"^v0.0.0":     "[v0.0.0,v0.0.1-0)",
		"^v0.0.0-a":   "[v0.0.0-a,v0.0.1-0)",
		"^v0.0.0-0":   "[v0.0.0-0,v0.0.1-0)",
		"^v1.2.3-a.1": "[v1.2.3-a.1,v2.0.0-0)",
		"^v2.0.0-0":   "[v2.0.0-0,v3.0.0-0)",
		"v1.x":        "[v1.0.0-0,v2.0.0-0)",
		"v0.x":        "[v0.0.0-0,v1.0.0-0)",
		"v10.x":       "[v10.0.0-0,v11.0.0-0)",
		"v1.2.x":      "[v1.2.0-0,v1.3.0-0)",
		"v0.0.x":      "[v0.0.0-0,v0.1.0-0)",
		"v10.20.x":    "[v10.20.0-0,v10.21.0-0)",
	} {
		expectText(t, s, want)
	}
}

// P301: a sign at its version, and close ahead of it and behind it.
func TestSignsAroundTheirVersion(t *testing.T) {
	for s, want := range map[string]string{
		"*": "+++++", "v1.2.3": "--+--", "=v1.2.3": "--+--", "!=v1.2.3": "++-++",
		">v1.2.3": "---++", ">=v1.2.3": "--+++", "<v1.2.3": "++---", "<=v1.2.3": "+++--",
		"^v1.2.3": "--+++", "~v1.2.3": "--+++", "v1.x": "+++++", "v1.2.x": "+++++", "v2.x": "-----", "v1.3.x": "-----",
		"v1.2.3 - v1.2.3": "--+--", "v1.2.3 - v1.2.4": "--+++", "v1.2.2 - v1.2.3": "+++--", "v1.2.4 - v1.2.3": "-----",
	} {
		got := ""
		for _, v := range []string{"v1.2.2", "v1.2.3-z", "v1.2.3", "v1.2.4-0", "v1.2.4"} {
			if span.Has(parsed(t, s), version(t, v)) {
				got += "+"
			} else {
				got += "-"
			}
		}
		if got != want {
			t.Errorf("Parse(%q): %s, want %s", s, got, want)
		}
	}
}

// P301: bumping at 999999 bumps what is ahead, up to A, of which there is no end.
func TestBumps(t *testing.T) {
	for s, want := range map[string]string{
		"^v999998.1.1":           "[v999998.1.1,v999999.0.0-0)",
		"^v999999.1.1":           "[v999999.1.1,)",
		"^v999999.0.0-a":         "[v999999.0.0-a,)",
		"^v1.999999.999999":      "[v1.999999.999999,v2.0.0-0)",
		"^v0.999998.1":           "[v0.999998.1,v0.999999.0-0)",
		"^v0.999999.1":           "[v0.999999.1,v1.0.0-0)",
		"^v0.0.999998":           "[v0.0.999998,v0.0.999999-0)",
		"^v0.0.999999":           "[v0.0.999999,v0.1.0-0)",
		"^v0.999999.999999":      "[v0.999999.999999,v1.0.0-0)",
		"~v1.999998.3":           "[v1.999998.3,v1.999999.0-0)",
		"~v1.999999.3":           "[v1.999999.3,v2.0.0-0)",
		"~v1.2.999999":           "[v1.2.999999,v1.3.0-0)",
		"~v999999.2.3":           "[v999999.2.3,v999999.3.0-0)",
		"~v999999.999999.3":      "[v999999.999999.3,)",
		"v999998.x":              "[v999998.0.0-0,v999999.0.0-0)",
		"v999999.x":              "[v999999.0.0-0,)",
		"v1.999999.x":            "[v1.999999.0-0,v2.0.0-0)",
		"v999999.1.x":            "[v999999.1.0-0,v999999.2.0-0)",
		"v999999.999999.x":       "[v999999.999999.0-0,)",
		">v999999.999999.999999": "(v999999.999999.999999,)",
	} {
		expectText(t, s, want)
	}
}

// P301: from the one to the other, both in.
func TestFromTo(t *testing.T) {
	for s, want := range map[string]string{
		"v1.0.0 - v2.0.0":                    "[v1.0.0,v2.0.0]",
		"v1.0.0  -  v1.0.0":                  "[v1.0.0,v1.0.0]",
		"  v1.0.0    -   v2.0.0   ":          "[v1.0.0,v2.0.0]",
		"v2.0.0 - v1.0.0":                    "-",
		"v1.0.0 - v1.0.0-a":                  "-",
		"v1.0.0-a - v1.0.0":                  "[v1.0.0-a,v1.0.0]",
		"v1.0.0-- - v1.0.0--":                "[v1.0.0--,v1.0.0--]",
		"v0.0.0-0 - v0.0.0-0":                "[v0.0.0-0,v0.0.0-0]",
		"v1.0.0 - v2.0.0||v3.0.0 - v4.0.0":   "[v1.0.0,v2.0.0] || [v3.0.0,v4.0.0]",
		"v1.0.0 - v3.0.0 v2.0.0 - v4.0.0":    "[v2.0.0,v3.0.0]",
		"v1.0.0 - v3.0.0 <v2.0.0":            "[v1.0.0,v2.0.0)",
		"<v2.0.0 v1.0.0 - v3.0.0":            "[v1.0.0,v2.0.0)",
		"v1.0.0 v1.0.0 - v3.0.0":             "[v1.0.0,v1.0.0]",
		"v2.0.0 - v1.0.0 || v5.0.0":          "[v5.0.0,v5.0.0]",
		"v1.0.0 - v2.0.0 || v2.0.0 - v3.0.0": "[v1.0.0,v3.0.0]",
		"v1.0.0 - v999999.999999.999999":     "[v1.0.0,v999999.999999.999999]",
		"v1.0.0-v2.0.0":                      "[v1.0.0-v2.0.0,v1.0.0-v2.0.0]",
		"v1.0.0-v2.0.0 - v1.0.0":             "[v1.0.0-v2.0.0,v1.0.0]",
		"v1.0.0 - v2.0.0 !=v1.5.0":           "[v1.0.0,v1.5.0) || (v1.5.0,v2.0.0]",
		"v1.0.0 - v2.0.0 !=v1.5.0 || v1.5.0": "[v1.0.0,v2.0.0]",
		"v1.0.0 - v2.0.0 !=v1.0.0 !=v2.0.0":  "(v1.0.0,v2.0.0)",
	} {
		expectText(t, s, want)
	}
}

// P301: what stands together holds together; parts in any order; blanks around and between, or none around the bars.
func TestPartsAndBlanks(t *testing.T) {
	for s, want := range map[string]string{
		">=v1.0.0 <v2.0.0":                  "[v1.0.0,v2.0.0)",
		"<v2.0.0 >=v1.0.0":                  "[v1.0.0,v2.0.0)",
		"   >=v1.0.0     <v2.0.0   ":        "[v1.0.0,v2.0.0)",
		" * ":                               "[v0.0.0-0,)",
		"* *":                               "[v0.0.0-0,)",
		"* v1.0.0":                          "[v1.0.0,v1.0.0]",
		"* || v1.0.0":                       "[v0.0.0-0,)",
		">v1.0.0 <v1.0.0":                   "-",
		">=v1.0.0 <v1.0.0":                  "-",
		">v1.0.0 <=v1.0.0":                  "-",
		">=v1.0.0 <=v1.0.0":                 "[v1.0.0,v1.0.0]",
		"v1.0.0 v2.0.0":                     "-",
		"v1.0.0 v2.0.0 || v3.0.0":           "[v3.0.0,v3.0.0]",
		"!=v1.0.0 !=v2.0.0":                 "[v0.0.0-0,v1.0.0) || (v1.0.0,v2.0.0) || (v2.0.0,)",
		"!=v2.0.0 !=v1.0.0 !=v2.0.0":        "[v0.0.0-0,v1.0.0) || (v1.0.0,v2.0.0) || (v2.0.0,)",
		"!=v1.0.0 || !=v2.0.0":              "[v0.0.0-0,)",
		"!=v1.0.0 || v1.0.0":                "[v0.0.0-0,)",
		"v1.0.0||v2.0.0":                    "[v1.0.0,v1.0.0] || [v2.0.0,v2.0.0]",
		"v2.0.0 || v1.0.0":                  "[v1.0.0,v1.0.0] || [v2.0.0,v2.0.0]",
		"  v2.0.0  ||  v1.0.0  ":            "[v1.0.0,v1.0.0] || [v2.0.0,v2.0.0]",
		"v2.0.0|| v1.0.0 ||v3.0.0":          "[v1.0.0,v1.0.0] || [v2.0.0,v2.0.0] || [v3.0.0,v3.0.0]",
		"v1.0.0||v1.0.0":                    "[v1.0.0,v1.0.0]",
		"v3.x||v1.x||v2.x":                  "[v1.0.0-0,v4.0.0-0)",
		"v3.x||v1.x":                        "[v1.0.0-0,v2.0.0-0) || [v3.0.0-0,v4.0.0-0)",
		"v1.x !=v1.5.0||v3.x":               "[v1.0.0-0,v1.5.0) || (v1.5.0,v2.0.0-0) || [v3.0.0-0,v4.0.0-0)",
		"^v1.0.0 ^v1.5.0 || ~v1.0.0":        "[v1.0.0,v1.1.0-0) || [v1.5.0,v2.0.0-0)",
		"^v1.0.0 ~v1.5.0":                   "[v1.5.0,v1.6.0-0)",
		"^v1.0.0 ^v2.0.0":                   "-",
		"<v1.0.0 || >=v1.0.0":               "[v0.0.0-0,)",
		"<=v1.0.0 || >v1.0.0":               "[v0.0.0-0,)",
		"<=v1.0.0 || >=v1.0.0":              "[v0.0.0-0,)",
		">v1.0.0 || <v1.0.0":                "[v0.0.0-0,v1.0.0) || (v1.0.0,)",
		"<v3.0.0 || >v1.0.0":                "[v0.0.0-0,)",
		"v1.0.0 - v9.0.0 || v2.0.0 || v3.x": "[v1.0.0,v9.0.0]",
	} {
		expectText(t, s, want)
	}
}

// P301: at the least version of all, and right behind it.
func TestLeastVersion(t *testing.T) {
	for s, want := range map[string]string{
		"v0.0.0-0": "[v0.0.0-0,v0.0.0-0]", "!=v0.0.0-0": "(v0.0.0-0,)", ">v0.0.0-0": "(v0.0.0-0,)", ">=v0.0.0-0": "[v0.0.0-0,)", "<v0.0.0-0": "-", "<=v0.0.0-0": "[v0.0.0-0,v0.0.0-0]",
		"<v0.0.0": "[v0.0.0-0,v0.0.0)", "<v0.0.0-0.0": "[v0.0.0-0,v0.0.0-0.0)", "<v0.0.0-0.0 !=v0.0.0-0": "(v0.0.0-0,v0.0.0-0.0)",
		"<=v0.0.0-0 || >v0.0.0-0": "[v0.0.0-0,)", "<v0.0.0-0 || >v0.0.0-0": "(v0.0.0-0,)",
	} {
		expectText(t, s, want)
	}
}

// P301: a Pre may look like other words.
func TestPreLikeOtherWords(t *testing.T) {
	long := strings.Repeat("a", 38) + ".x"
	for _, s := range []string{"v1.2.3-x", "v1.2.3-a.x", "v1.2.3-x.x", "v1.2.3-0.x", "v1.2.3-v1.x", "v1.2.3--", "v1.2.3-v1.2.3", "v1.2.3-" + long} {
		for _, sign := range []string{"", "="} {
			expectText(t, sign+s, "["+s+","+s+"]")
		}
		expectText(t, "^"+s, "["+s+",v2.0.0-0)")
	}
	expectWrong(t, "v1.2.3-a"+long, 0)
}

// P301: a word that is none is so at its first byte, wherever it stands.
func TestWrongWords(t *testing.T) {
	for _, word := range []string{
		"v", "v1", "v1.2", "1.2.3", "V1.2.3", "v01.2.3", "v1.2.3.4", "v1000000.0.0", "v1.2.3-", "v1.2.3-01", "v1.2.3-a..b", "v1.2.3+b", "v1.2.3-" + strings.Repeat("a", 41),
		"=", "!", "!=", ">", ">=", "<", "<=", "^", "~", "=1.2.3", "^1.2.3", "=v1", "^v1", "~v1.2", "==v1.2.3", "=>v1.2.3", "=<v1.2.3", "<>v1.2.3", "!v1.2.3", "!!=v1.2.3", ">>v1.2.3", "^^v1.2.3", "~~v1.2.3", "^~v1.2.3", "~>v1.2.3", "===v1.2.3", "v1.2.3=", "v1.2.3>v1.0.0", ">v1.2.3<v2.0.0",
		"x", "X", ".x", "v.x", "vx", "v1x", "v1.X", "v1.*", "v1.xx", "v1.x.x", "v1.x.3", "v1..x", "v1.2.3.x", "v01.x", "v1.02.x", "v1000000.x", "v1.1000000.x", "v-1.x", "v+1.x", "1.x", "V1.x", "v1.2.X", "v1.x-a", "v1-a.x", "v1.2-a.x", "v1.2.-a.x", "v1.2.3-.x", "v1.2.3-01.x",
		"=v1.x", "!=v1.x", ">v1.x", ">=v1.x", "<v1.x", "<=v1.x", "^v1.x", "~v1.2.x",
		"**", "*.x", "=*", "^*", "*v1.2.3", "v1.2.3*", "-*",
		"--", "-v1.2.3", "-a", ",", "v1.2.3,", "v1.2.3,v1.2.4", "v1.2.3&&v1.2.4", "(v1.2.3)",
		"v1.2.3\t", "\tv1.2.3", "v1.2.3\tv1.2.4", "v1.2.3\n", "\n", "\t", "\x00", "\xff", "v1.2.3\u00a0", "\u00e9", "v1.2.3\r", "v1.2.3\x00",
		strings.Repeat("v1.2.3", 2000), strings.Repeat("x", 9000), strings.Repeat("^", 9000),
	} {
		for _, ahead := range []string{"", "   ", "v1.0.0 ", "* ", "^v1.0.0   ", "v1.x ", "v1.0.0||", "v1.0.0 || ", "v1.0.0 - v2.0.0 ", "v1.0.0 - ", "v1.0.0   -   ", ">v2.0.0 v1.0.0 - "} {
			for _, behind := range []string{"", " ", " v1.0.0", "||v1.0.0", " || v1.0.0", "|", " - v1.0.0", " x"} {
				expectWrong(t, ahead+word+behind, len(ahead))
			}
		}
	}
}

// P301: behind a version and `-` stands a version alone; `-` stands nowhere else.
func TestWrongFromTo(t *testing.T) {
	for s, at := range map[string]int{
		"-": 0, "- v1.0.0": 0, " - v1.0.0": 1, "v1.0.0 -": 8, "v1.0.0 - ": 9, "v1.0.0 -   ": 11, "v1.0.0 -x": 7, "v1.0.0 -v2.0.0": 7, "v1.0.0- v2.0.0": 0, "v1.0.0 --": 7,
		"v1.0.0 -|": 8, "v1.0.0 -||v2.0.0": 8, "v1.0.0 - |": 9, "v1.0.0 - || v2.0.0": 9, "v1.0.0 - - v2.0.0": 9, "v1.0.0 - *": 9, "v1.0.0 - =v2.0.0": 9, "v1.0.0 - >v2.0.0": 9, "v1.0.0 - v2.x": 9, "v1.0.0 - v2": 9,
		"=v1.0.0 - v2.0.0": 8, ">v1.0.0 - v2.0.0": 8, "^v1.0.0 - v2.0.0": 8, "* - v2.0.0": 2, "v1.x - v2.0.0": 5, "v1.2.x - v2.0.0": 7,
		"v1.0.0 - v2.0.0 - v3.0.0": 16, "v1.0.0 - v2.0.0 -": 16, "v1.0.0 - v2.0.0 v3.0.0 -": 24, "v1.0.0 || - v2.0.0": 10, "v1.0.0 - v2.0.0|": 16, "v1.0.0 - v2.0.0 x": 16, "v1.0.0 - v2.0.0 || v1.0.0 - v2.0.0 - x": 35,
	} {
		expectWrong(t, s, at)
	}
}

// P301: bars and blanks that may not stand there, and texts that end too early.
func TestWrongBars(t *testing.T) {
	for s, at := range map[string]int{
		"": 0, " ": 1, "   ": 3, "|": 0, "||": 0, " |": 1, "  ||": 2, "|| v1.0.0": 0, "|v1.0.0": 0,
		"v1.0.0|": 7, "v1.0.0 |": 8, "v1.0.0| ": 7, "v1.0.0 | ": 8, "v1.0.0|v2.0.0": 7, "v1.0.0 | v2.0.0": 8, "v1.0.0| |v2.0.0": 7, "v1.0.0 | | v2.0.0": 8, "v1.0.0|x": 7,
		"v1.0.0||": 8, "v1.0.0 ||": 9, "v1.0.0 || ": 10, "v1.0.0 ||    ": 13, "v1.0.0|||": 8, "v1.0.0 ||| v2.0.0": 9, "v1.0.0||||v2.0.0": 8, "v1.0.0 || || v2.0.0": 10, "v1.0.0 || |": 10, "v1.0.0||v2.0.0|": 15, "v1.0.0||v2.0.0||": 16, "v1.0.0||v2.0.0|||v3.0.0": 16,
		">= v1.0.0": 0, "^ v1.0.0": 0, "v1.0.0 = v1.0.0": 7, "v1 .0.0": 0,
	} {
		expectWrong(t, s, at)
	}
}

// forTexts calls f for all texts of at most n of the pieces.
func forTexts(n int, pieces []string, f func(s string)) {
	row := []string{""}
	for range n + 1 {
		var next []string
		for _, s := range row {
			f(s)
			for _, p := range pieces {
				next = append(next, s+p)
			}
		}
		row = next
	}
}

// right tells whether s asks for versions.
func right(s string) bool {
	_, _, e := span.Parse(s)
	return e == api.OK
}

// P301: up to the byte at which a text is refused it could go on well; with the word, or the bar, that is there, it cannot.
func TestFirstWrongByte(t *testing.T) {
	goOn := []string{"", "v1.0.0", " v1.0.0", "|v1.0.0", "||v1.0.0", " - v1.0.0"}
	forTexts(6, []string{"v1.0.0", "-", " ", "|", "*", "=", "x"}, func(s string) {
		l, at, e := span.Parse(s)
		if e == api.OK && at == 0 {
			return
		}
		if e != api.BadRange || len(l) > 0 || at < 0 || at > len(s) {
			t.Fatalf("Parse(%q): %v, %d, %v", s, l, at, e)
		}
		if !slices.ContainsFunc(goOn, func(more string) bool { return right(s[:at] + more) }) {
			t.Fatalf("Parse(%q): refused at %d, but ahead of it already it is none", s, at)
		}
		if at == len(s) {
			return
		}
		word := s[at:]
		if word[0] == '|' || word[0] == ' ' {
			word = word[:1]
		} else if n := strings.IndexAny(word, " |"); n >= 0 {
			word = word[:n]
		}
		for _, more := range goOn {
			if more != "v1.0.0" && right(s[:at]+word+more) {
				t.Fatalf("Parse(%q): refused at %d, but %q is right", s, at, s[:at]+word+more)
			}
		}
	})
}

// isVersion tells whether a word is one.
func isVersion(word string) bool {
	_, is := ver.Parse(word)
	return is
}

// rightByWords tells by words alone whether s, of the signs `=` and `*` alone, asks for versions.
func rightByWords(s string) bool {
	for _, part := range strings.Split(s, "||") {
		words := strings.FieldsFunc(part, func(r rune) bool { return r == ' ' })
		if len(words) == 0 || strings.Contains(part, "|") {
			return false
		}
		for len(words) > 0 {
			if len(words) > 2 && isVersion(words[0]) && words[1] == "-" && isVersion(words[2]) {
				words = words[3:]
			} else if isVersion(strings.TrimPrefix(words[0], "=")) || words[0] == "*" {
				words = words[1:]
			} else {
				return false
			}
		}
	}
	return true
}

// P301: which texts are right.
func TestWhichTextsAreRight(t *testing.T) {
	forTexts(6, []string{"v1.0.0", "-", " ", "|", "*", "="}, func(s string) {
		if right(s) != rightByWords(s) {
			t.Fatalf("Parse(%q): right: %v", s, right(s))
		}
	})
}

// P301, P1: a text of many parts, and one of many words, however long.
func TestLongTexts(t *testing.T) {
	var each, none, out []string
	for k := range 20000 {
		v := ver.Text(api.Ver{A: k % 100, B: k / 100})
		each, none = append(each, v), append(none, "!="+v)
		out = append(out, "["+v+","+v+"]")
	}
	all := parsed(t, strings.Join(each, "||"))
	if len(all) != len(out) {
		t.Fatalf("%d spans", len(all))
	}
	slices.SortFunc(out, func(a, b string) int {
		return ver.Cmp(version(t, a[1:strings.Index(a, ",")]), version(t, b[1:strings.Index(b, ",")]))
	})
	if span.Text(all) != strings.Join(out, " || ") {
		t.Error("many parts")
	}
	if !slices.Equal(parsed(t, strings.Join(none, " ")), span.Not(all)) {
		t.Error("many words")
	}
	expectText(t, strings.Repeat(" ", 9000)+"*"+strings.Repeat(" ", 9000), "[v0.0.0-0,)")
}

// P2, P3: what is answered is the caller's: changing it changes no later answer.
func TestParseAnswersNewMemory(t *testing.T) {
	for _, s := range []string{"*", "v1.0.0", "!=v1.0.0", "v1.x || v3.x", "v1.0.0 - v2.0.0", "^v999999.0.0"} {
		was := span.Text(parsed(t, s))
		spoil(parsed(t, s))
		if got := span.Text(parsed(t, s)); got != was {
			t.Errorf("Parse(%q): %s, then %s", s, was, got)
		}
	}
}

// P1, P4: whatever bytes are handed in, Parse answers normed spans at 0, or nothing but an error and its place.
func FuzzParse(f *testing.F) {
	for _, s := range []string{"", "v1.0.0 - v2.0.0", "^v1.2.3 || ~v0.1.0-a", "v1.x !=v1.2.3", ">=v1.0.0 <v2.0.0||*", "v1.0.0 |", "\xff|| "} {
		f.Add(s)
	}
	f.Fuzz(func(t *testing.T, s string) {
		l, at, e := span.Parse(s)
		switch {
		case e == api.OK && at == 0:
			expectNormed(t, l)
		case e != api.BadRange || len(l) > 0 || at < 0 || at > len(s):
			t.Errorf("Parse(%q): %v, %d, %v", s, l, at, e)
		}
	})
}
