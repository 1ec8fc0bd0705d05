package text_test

import (
	"regexp"
	"strings"
	"testing"

	"transhumance/text"
)

// P102: Quote, byte by byte: only four bytes are written in another way.
func TestQuote(t *testing.T) {
	for i := range 256 {
		b := string([]byte{byte(i)})
		want := b
		switch i {
		case '"':
			want = `\"`
		case '\\':
			want = `\\`
		case '\n':
			want = `\n`
		case '\t':
			want = `\t`
		}
		if got := text.Quote(b); got != `"`+want+`"` {
			t.Errorf("Quote %q: %s", b, got)
		}
		if got := text.Quote("x" + b + "y" + b); got != `"x`+want+`y`+want+`"` {
			t.Errorf("Quote of more, %q: %s", b, got)
		}
	}
	for s, want := range map[string]string{
		"":          `""`,
		"a":         `"a"`,
		`\n`:        `"\\n"`,
		"\u00e9":    "\"\u00e9\"",
		"a/b \"c\"": `"a/b \"c\""`,
	} {
		if got := text.Quote(s); got != want {
			t.Errorf("Quote %q: %s", s, got)
		}
	}
}

// P102: what Unquote reads, and how far.
func TestUnquote(t *testing.T) {
	cases := []struct {
		s, out string
		used   int
	}{
		{`""`, "", 2},
		{`"a"`, "a", 3},
		{`"a" "b"`, "a", 3},
		{`"""`, "", 2},
		{"\"a\"\n\x00\xff", "a", 3},
		{`"\""`, `"`, 4},
		{`"\\"`, `\`, 4},
		{`"\/"`, `/`, 4},
		{`"\n"`, "\n", 4},
		{`"\t"`, "\t", 4},
		{`"/"`, `/`, 3},
		{`"\\n"`, `\n`, 5},
		{`"\\\""x`, `\"`, 6},
		{`"nt' ~"`, `nt' ~`, 7},
	}
	for _, k := range cases {
		out, used, is := text.Unquote(k.s)
		if !is || out != k.out || used != k.used {
			t.Errorf("Unquote %q: %q, %d, %v", k.s, out, used, is)
		}
	}
}

// P102, P4: what Unquote refuses, with zero values.
func TestUnquoteRefuses(t *testing.T) {
	for _, s := range []string{
		"", "a", ` "a"`, "'a'", `\"a"`, `a"b"`,
		`"`, `"a`, `"\`, `"\"`, `"a\"`, `"\\\"`, `"\n`,
		"\"a\nb\"", "\"a\tb\"", "\"\n", "\"a\rb\"", "\"\x00\"", "\"\x1f\"", "\"\x7f\"", "\"\x80\"", "\"\xff\"", "\"\u00e9\"",
		`"\a"`, `"\r"`, `"\N"`, `"\T"`, `"\ "`, `"\'"`, `"\u0041"`, `"\x41"`, `"\0"`, "\"\\\n\"", "\"\\\t\"", "\"\\\x80\"",
	} {
		if out, used, is := text.Unquote(s); out != "" || used != 0 || is {
			t.Errorf("Unquote %q: %q, %d, %v", s, out, used, is)
		}
	}
}

// P102: each byte within quotes, by itself and behind a backslash.
func TestUnquoteEachByte(t *testing.T) {
	for i := range 256 {
		b := string([]byte{byte(i)})
		if want := i >= 32 && i <= 126 && i != '"' && i != '\\'; want {
			if out, used, is := text.Unquote(`"` + b + `"`); !is || out != b || used != 3 {
				t.Errorf("Unquote of %q: %q, %d, %v", b, out, used, is)
			}
		} else if out, used, is := text.Unquote(`"` + b + `x"`); is && i != '"' {
			t.Errorf("Unquote of %q: %q, %d", b, out, used)
		}
		if _, _, is := text.Unquote(`"\` + b + `"`); is != (strings.IndexByte(`"\/nt`, byte(i)) >= 0) {
			t.Errorf("Unquote of a backslash and %q: %v", b, is)
		}
	}
}

// P102: Unquote against a pattern and a replacer, on every text of up to six of these bytes.
func TestUnquoteOfAllShortTexts(t *testing.T) {
	pattern := regexp.MustCompile(`^"([ !#-\[\]-~]|\\["\\/nt])*"`)
	says := strings.NewReplacer(`\"`, `"`, `\\`, `\`, `\/`, `/`, `\n`, "\n", `\t`, "\t")
	eachText(`"\nta/`+"\n\x80", 6, func(s string) {
		found := pattern.FindString(s)
		want := ""
		if found != "" {
			want = says.Replace(found[1 : len(found)-1])
		}
		out, used, is := text.Unquote(s)
		if is != (found != "") || used != len(found) || out != want {
			t.Fatalf("Unquote %q: %q, %d, %v", s, out, used, is)
		}
	})
}

// eachText calls do with every text of up to most bytes of set.
func eachText(set string, most int, do func(string)) {
	var more func(s string)
	more = func(s string) {
		do(s)
		if len(s) == most {
			return
		}
		for i := range len(set) {
			more(s + set[i:i+1])
		}
	}
	more("")
}

// P103 (T4): Unquote of Quote of plain bytes is these, whatever stands behind.
func TestThereAndBack(t *testing.T) {
	back := func(s string) {
		q := text.Quote(s)
		for _, behind := range []string{"", "x", `"`, `\`, "\n", s} {
			if out, used, is := text.Unquote(q + behind); !is || out != s || used != len(q) {
				t.Fatalf("Unquote of Quote of %q, and %q: %q, %d, %v", s, behind, out, used, is)
			}
		}
		if strings.ContainsAny(q, "\n\t") {
			t.Fatalf("Quote %q: more than a line: %q", s, q)
		}
	}
	var all []byte
	for i := range 256 {
		if b := string([]byte{byte(i)}); text.Plain(b) {
			all = append(all, byte(i))
			back(b)
		}
	}
	if len(all) != 97 {
		t.Errorf("%d plain bytes", len(all))
	}
	back(string(all))
	back(strings.Repeat(string(all), 100))
	eachText("\"\\\n\tnt/ ", 5, back)
}

// P103 holds of plain bytes alone: others are written as they are, and are refused.
func TestNoWayBack(t *testing.T) {
	for i := range 256 {
		b := string([]byte{byte(i)})
		if _, _, is := text.Unquote(text.Quote("a" + b)); is != text.Plain(b) {
			t.Errorf("%q: %v", b, is)
		}
	}
}
