package brace_test

import (
	"math/rand"
	"regexp"
	"strings"
	"testing"

	"transhumance/api"
	"transhumance/brace"
)

// Patterns of the signs, in the words of the chapter.
var (
	signForm   = regexp.MustCompile(`\A(?:"(?:[ !#-\[\]-~]|\\["\\/nt])*"|-?[0-9]+|true|false|[\[\]{}:,])`)
	numberForm = regexp.MustCompile(`\A(?:0|-?[1-9][0-9]{0,8})\z`)
	slashForm  = regexp.MustCompile(`\\.`)
)

// frame is a list or a map that is open.
type frame struct {
	end  string
	keys []string
}

// reading is a second way to read a text: sign by sign, with what is open on a row, and the signs that may be next.
type reading struct {
	open []frame
	next string // V a value, K a key, ] a list's end, } a map's, : , those, $ the text's end
	out  strings.Builder
}

// wanted answers what Parse has to tell of s: its text without blanks, or the place of its error.
func wanted(s string) (string, int, api.Errno) {
	r := &reading{next: "V"}
	for at := 0; ; {
		at += len(s[at:]) - len(strings.TrimLeft(s[at:], " \t\n"))
		if at == len(s) {
			if r.next == "$" {
				return r.out.String(), 0, api.OK
			}
			return "", at, api.BadText
		}
		sign := signForm.FindString(s[at:])
		if e := r.take(sign); e != api.OK {
			return "", at, e
		}
		at += len(sign)
	}
}

// take goes on by a sign ("": none).
func (r *reading) take(sign string) api.Errno {
	kind := "V"
	if len(sign) == 1 && strings.Contains("]}:,", sign) {
		kind = sign
	}
	if strings.HasPrefix(sign, `"`) && strings.Contains(r.next, "K") {
		kind = "K"
	}
	if sign == "" || !strings.Contains(r.next, kind) {
		return api.BadText
	}
	sign = slashForm.ReplaceAllStringFunc(sign, func(s string) string { return strings.ReplaceAll(s, `\/`, "/") })
	top := len(r.open) - 1
	switch kind {
	case "K":
		for _, k := range r.open[top].keys {
			if k == sign {
				return api.Twice
			}
		}
		r.open[top].keys = append(r.open[top].keys, sign)
		r.next = ":"
	case ":":
		r.next = "V"
	case ",":
		if r.next = "V"; r.open[top].end == "}" {
			r.next = "K"
		}
	case "V":
		return r.value(sign)
	default:
		r.open = r.open[:top]
		r.behind(sign)
		return api.OK
	}
	r.out.WriteString(sign)
	return api.OK
}

// value goes on by a sign that a value begins with.
func (r *reading) value(sign string) api.Errno {
	if sign == "[" || sign == "{" {
		if len(r.open) == 8 {
			return api.TooDeep
		}
		r.out.WriteString(sign)
		if sign == "[" {
			r.open, r.next = append(r.open, frame{end: "]"}), "V]"
		} else {
			r.open, r.next = append(r.open, frame{end: "}"}), "K}"
		}
		return api.OK
	}
	if strings.Trim(sign, "-0123456789") == "" && !numberForm.MatchString(sign) {
		return api.BadText
	}
	r.behind(sign)
	return api.OK
}

// behind goes on by the last sign of a value.
func (r *reading) behind(sign string) {
	r.out.WriteString(sign)
	r.next = "$"
	if len(r.open) > 0 {
		r.next = "," + r.open[len(r.open)-1].end
	}
}

// expectWanted fails unless Parse, and Text of what it tells, are as wanted.
func expectWanted(t *testing.T, s string) {
	t.Helper()
	want, at, e := wanted(s)
	v, place, got := brace.Parse(s)
	if e != api.OK {
		ahead := s[:at]
		line := 1 + strings.Count(ahead, "\n")
		if expected := (api.Place{Line: line, Col: at - strings.LastIndex(ahead, "\n")}); got != e || place != expected || v.Kind != 0 {
			t.Fatalf("Parse(%q): %v, %v, want %v, %v", s, place, got, expected, e)
		}
		return
	}
	if got != api.OK || place != (api.Place{}) || brace.Text(v) != want {
		t.Fatalf("Parse(%q): %v, %v, %s, want %s", s, place, got, brace.Text(v), want)
	}
	// T4: there and back.
	w, _, f := brace.Parse(want)
	if f != api.OK || !same(v, w) {
		t.Fatalf("Parse(%q): %v, and of its text %v, %v", s, v, w, f)
	}
}

// P501: all texts of up to so many of these signs.
func TestParseOfAllShortTexts(t *testing.T) {
	each := func(most int, signs ...string) {
		var more func(s string, n int)
		more = func(s string, n int) {
			expectWanted(t, s)
			if n == 0 {
				return
			}
			for _, sign := range signs {
				more(s+sign, n-1)
			}
		}
		more("", most)
	}
	each(5, "[", "]", "{", "}", ":", ",", `"`, "a", `\`, "0", "-")
	each(5, "[", "]", "{", "}", `"a"`, `"b"`, ":", ",", "1", "\n")
	each(6, "{", "}", `"/"`, `"\/"`, ":", ",", "true")
	each(6, "-", "0", "1", "9", " ", "[")
	each(5, "true", "false", "tru", "e", " ", "\t", ",", "[", "]", "\x80")
	each(4, "[[[", "{\"a\":", "[", "]]]", "]", "}", ",", "1", "[[[[[[[[", "]]]]]]]]")
}

// P501: long texts that are right, and the same with a byte changed, left out or put in.
func TestParseOfBrokenTexts(t *testing.T) {
	die := rand.New(rand.NewSource(5))
	others := "\"[]{}:,\\/ \n\t\x00\xffa01-t"
	for range 20000 {
		s := anyText(die, 0)
		expectWanted(t, s)
		at := die.Intn(len(s))
		i := die.Intn(len(others))
		other := others[i : i+1]
		for _, broken := range []string{s[:at] + other + s[at+1:], s[:at] + s[at+1:], s[:at] + other + s[at:], s[:at], s[at:]} {
			expectWanted(t, broken)
		}
	}
}

// anyText answers the text of any value, with blanks.
func anyText(die *rand.Rand, deep int) string {
	blank := func() string { return []string{"", "", " ", "\n", "\t", " \n "}[die.Intn(6)] }
	word := func() string {
		return []string{`""`, `"a"`, `"b"`, `"\/"`, `"/"`, `"\n\t\"\\"`, `" [{"`, `"long text"`}[die.Intn(8)]
	}
	var parts []string
	switch die.Intn(7) {
	case 0:
		return blank() + word() + blank()
	case 1:
		return blank() + []string{"0", "1", "-1", "12", "999999999", "-999999999"}[die.Intn(6)] + blank()
	case 2:
		return blank() + []string{"true", "false"}[die.Intn(2)] + blank()
	case 3, 4:
		for range die.Intn(4) {
			parts = append(parts, anyText(die, deep+1))
		}
		return blank() + "[" + blank() + strings.Join(parts, ",") + "]" + blank()
	}
	for range die.Intn(4) {
		parts = append(parts, blank()+word()+blank()+":"+anyText(die, deep+1))
	}
	return blank() + "{" + blank() + strings.Join(parts, ",") + "}" + blank()
}
