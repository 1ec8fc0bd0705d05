package brace_test

import (
	"fmt"
	"math"
	"reflect"
	"slices"
	"strconv"
	"strings"
	"testing"

	"transhumance/api"
	"transhumance/brace"
)

// The face of the package: this stops compiling if a signature changes.
var (
	_ func(string) (api.Value, api.Place, api.Errno)  = brace.Parse
	_ func(api.Value) string                          = brace.Text
	_ func(string) ([]api.Lock, api.Place, api.Errno) = brace.Locks
	_ func([]api.Lock) string                         = brace.Write
)

func quoted(s string) api.Value { return api.Value{Kind: api.VText, S: s} }

func number(n int) api.Value { return api.Value{Kind: api.VNum, N: n} }

func list(l ...api.Value) api.Value { return api.Value{Kind: api.VList, L: l} }

// pairs is the map of these keys, parted by blanks, and these values.
func pairs(keys string, l ...api.Value) api.Value {
	return api.Value{Kind: api.VMap, Keys: strings.Fields(keys), L: l}
}

func yes() api.Value { return api.Value{Kind: api.VBool, N: 1} }

func no() api.Value { return api.Value{Kind: api.VBool} }

// expectValue fails unless Parse tells want of s, with no place and no error.
func expectValue(t *testing.T, s string, want api.Value) {
	t.Helper()
	v, at, e := brace.Parse(s)
	if e != api.OK || at != (api.Place{}) {
		t.Errorf("Parse(%.99q): %v, %v", s, at, e)
	} else if !same(v, want) {
		t.Errorf("Parse(%.99q): %.999s, want %.999s", s, fmt.Sprint(v), fmt.Sprint(want))
	}
}

// same tells whether the values are one another's, whatever their lists of none are.
func same(v, w api.Value) bool {
	return v.Kind == w.Kind && v.N == w.N && v.S == w.S && slices.Equal(v.Keys, w.Keys) && slices.EqualFunc(v.L, w.L, same)
}

// expectFault fails unless Parse answers this error at this place, and nothing else (P4).
func expectFault(t *testing.T, s string, line, col int, e api.Errno) {
	t.Helper()
	v, at, got := brace.Parse(s)
	if want := (api.Place{Line: line, Col: col}); got != e || at != want {
		t.Errorf("Parse(%.99q): %v, %v, want %v, %v", s, at, got, want, e)
	}
	if !reflect.DeepEqual(v, api.Value{}) {
		t.Errorf("Parse(%.99q): %v beside an error", s, v)
	}
}

// expectNone fails unless s, by itself and as an item, a key's value and on a later line, is none at its byte at.
func expectNone(t *testing.T, s string, at int) {
	t.Helper()
	expectFault(t, s, 1, 1+at, api.BadText)
	expectFault(t, "["+s+"]", 1, 2+at, api.BadText)
	expectFault(t, "[1,"+s+",1]", 1, 4+at, api.BadText)
	expectFault(t, "{\"k\":"+s+"}", 1, 6+at, api.BadText)
	expectFault(t, "[\n\n \t"+s+"\n]", 3, 3+at, api.BadText)
}

// P501: 8000 bytes at most, whatever they are.
func TestParseLength(t *testing.T) {
	blank := strings.Repeat(" ", 8000)
	expectValue(t, blank[:7998]+"[]", list())
	expectValue(t, "[]"+blank[:7998], list())
	expectValue(t, "\""+strings.Repeat("a", 7998)+"\"", quoted(strings.Repeat("a", 7998)))
	expectFault(t, blank, 1, 8001, api.BadText)
	expectFault(t, blank[:7999]+"\n", 2, 1, api.BadText)
	expectFault(t, blank[:7999]+"\x80", 1, 8000, api.BadText)
	for _, s := range []string{
		blank + " ", blank[:7999] + "[]", "[]" + blank[:7999], strings.Repeat("\n", 8001), "\n\n\n" + blank, strings.Repeat("[", 8001), strings.Repeat("\x00", 8001), "\"" + strings.Repeat("a", 7999) + "\"", strings.Repeat("\u00e9", 4001), strings.Repeat(blank, 100), "{\"a\":1,\"a\":2}" + blank,
	} {
		expectFault(t, s, 1, 1, api.TooLong)
	}
}

// P501: a quoted text is one by itself, and is as text.Unquote says; one that is none is so at its first byte.
func TestParseQuoted(t *testing.T) {
	expectValue(t, `""`, quoted(""))
	expectValue(t, `"a b"`, quoted("a b"))
	expectValue(t, `"\"\\\/\n\t"`, quoted("\"\\/\n\t"))
	expectValue(t, `" [{]},:1 "`, quoted(" [{]},:1 "))
	expectValue(t, `["~","\\",""]`, list(quoted("~"), quoted("\\"), quoted("")))
	for _, s := range []string{`"`, `"a`, `"\`, `"\"`, `"a\"`, `"\\\"`} {
		expectFault(t, s, 1, 1, api.BadText)
		expectFault(t, " \n["+s, 2, 2, api.BadText)
		expectFault(t, "{"+s, 1, 2, api.BadText)
		expectFault(t, "{\"k\":"+s, 1, 6, api.BadText)
	}
	for _, s := range []string{`"\a"`, `"\u0041"`, `"\b"`, `"\ "`, "\"a\nb\"", "\"\t\"", "\"\\\n\"", `"a\'"`} {
		expectNone(t, s, 0)
	}
	expectFault(t, "'a'", 1, 1, api.BadText)
	expectFault(t, `"a""b"`, 1, 4, api.BadText)
	expectFault(t, `["a" "b"]`, 1, 6, api.BadText)
	expectFault(t, `["a"b"]`, 1, 5, api.BadText)
	expectFault(t, `\"a\"`, 1, 1, api.BadText)
}

// P501: numbers that are right, below 0, too.
func TestParseNumbers(t *testing.T) {
	expectValue(t, "0", number(0))
	for _, n := range []int{1, 7, 9, 10, 42, 100, 101, 99999999, 100000000, 999999999} {
		s := strconv.Itoa(n)
		expectValue(t, s, number(n))
		expectValue(t, "-"+s, number(-n))
		expectValue(t, "["+s+",-"+s+"]", list(number(n), number(-n)))
		expectValue(t, "{\"k\":\n-"+s+"\n}", pairs("k", number(-n)))
	}
}

// P501: numbers that are none are so at their first byte, the - with them; what stands behind a right one at its own.
func TestParseNoNumbers(t *testing.T) {
	for _, s := range []string{"-0", "-", "--1", "- 1", "00", "01", "-01", "-00", "007", "0000000001", "1234567890", "-1234567890", "1000000000", "4294967297", "18446744073709551617", strings.Repeat("9", 500), "-a", "+1", "-.5", ".5", "-\n1", "-\"a\"", "-true"} {
		expectNone(t, s, 0)
	}
	for s, at := range map[string]int{"1.5": 1, "1e3": 1, "-1e3": 2, "0x1": 1, "5a": 1, "1-": 1, "1-1": 1, "0-1": 1, "12_": 2, "1+1": 1, "-7-": 2, "1 2": 2, "0 0": 2, "999999999a": 9, "5true": 1, "5\"\"": 1, "5[": 1, "1\u0661": 1} {
		expectNone(t, s, at)
	}
	expectFault(t, "[1,-0]", 1, 4, api.BadText)
	expectFault(t, "-", 1, 1, api.BadText)
	expectFault(t, "[-", 1, 2, api.BadText)
	expectFault(t, "[01 x", 1, 2, api.BadText)
}

// P501: true and false are words; what only begins so is wrong behind them, what only begins like them at its first byte.
func TestParseWords(t *testing.T) {
	expectValue(t, "true", yes())
	expectValue(t, "false", no())
	expectValue(t, "[true,false , true]", list(yes(), no(), yes()))
	for s, at := range map[string]int{"truex": 4, "true1": 4, "truetrue": 4, "true false": 5, "true\"": 4, "false_": 5, "falsetrue": 5, "falsefalse": 5, "falses": 5, "true.": 4, "true-1": 4} {
		expectNone(t, s, at)
	}
	for _, s := range []string{"t", "tru", "f", "fals", "True", "TRUE", "False", "null", "nil", "x", "tRue", "tr ue", "fa\nlse", "yes", "\u0442rue", "ftrue", "a"} {
		expectNone(t, s, 0)
	}
	expectFault(t, "tru", 1, 1, api.BadText)
	expectFault(t, "[fals", 1, 2, api.BadText)
}

// P501: lists and maps, of none, of one, of several, of one another; keys and values as they stand.
func TestParseListsAndMaps(t *testing.T) {
	expectValue(t, "[]", list())
	expectValue(t, "{}", pairs(""))
	expectValue(t, "[1]", list(number(1)))
	expectValue(t, "[[],{},[[]],[{}]]", list(list(), pairs(""), list(list()), list(pairs(""))))
	expectValue(t, `{"b":1,"a":[true],"c":{}}`, pairs("b a c", number(1), list(yes()), pairs("")))
	expectValue(t, `{"":{"":0}}`, api.Value{Kind: api.VMap, Keys: []string{""}, L: []api.Value{{Kind: api.VMap, Keys: []string{""}, L: []api.Value{number(0)}}}})
	expectValue(t, `{"\"\/\n":"\t"}`, api.Value{Kind: api.VMap, Keys: []string{"\"/\n"}, L: []api.Value{quoted("\t")}})
	expectValue(t, `[{"a":1},{"a":1},{"a":{"a":1}}]`, list(pairs("a", number(1)), pairs("a", number(1)), pairs("a", pairs("a", number(1)))))
	expectValue(t, "["+strings.Repeat("1,", 3000)+"1]", list(repeated(number(1), 3001)...))
}

func repeated(v api.Value, n int) []api.Value {
	var l []api.Value
	for range n {
		l = append(l, v)
	}
	return l
}

// P501: blanks of each kind, one or more, ahead of, between and behind all signs; no other byte is one.
func TestParseBlanks(t *testing.T) {
	signs := []string{"{", `"a"`, ":", "[", "1", ",", "-2", ",", "true", ",", "[", "]", ",", "{", "}", "]", ",", `"b"`, ":", `"c d"`, "}"}
	want := pairs("a b", list(number(1), number(-2), yes(), list(), pairs("")), quoted("c d"))
	for _, blank := range []string{"", " ", "\t", "\n", "  ", "\n\n", "\t \n\t", "\n \n"} {
		expectValue(t, blank+strings.Join(signs, blank)+blank, want)
		for i := range len(signs) + 1 {
			expectValue(t, strings.Join(signs[:i], "")+blank+strings.Join(signs[i:], ""), want)
		}
	}
	for _, other := range []string{"\r", "\v", "\f", "\x00", "\x7f", "\xa0", "\u00a0", "\u2028", "\ufeff", "#", "/", ";"} {
		for i := range len(signs) + 1 {
			ahead := strings.Join(signs[:i], "")
			expectFault(t, ahead+other+strings.Join(signs[i:], ""), 1, 1+len(ahead), api.BadText)
			expectFault(t, "\n\t"+ahead+other, 2, 2+len(ahead), api.BadText)
		}
	}
	expectFault(t, "- 1", 1, 1, api.BadText)
	expectFault(t, "1 0", 1, 3, api.BadText)
	expectFault(t, "t rue", 1, 1, api.BadText)
}

// P501: a text that ends in the midst of a value is wrong behind its last byte.
func TestParseEndsEarly(t *testing.T) {
	for _, s := range []string{"", "[", "[1", "[1,", "[[", "[[]", "[[],", "[{}", "{", `{"a"`, `{"a":`, `{"a":1`, `{"a":1,`, `{"a":1,"b"`, `{"a":1,"b":`, `{"a":{"b":[`, `{"a":"b"`, "[true", "[-1"} {
		for _, behind := range []string{"", " ", "\t\t", "  \t"} {
			expectFault(t, s+behind, 1, 1+len(s+behind), api.BadText)
			expectFault(t, "\n\n"+s+behind, 3, 1+len(s+behind), api.BadText)
		}
		expectFault(t, s+"\n", 2, 1, api.BadText)
		expectFault(t, s+" \n\n  ", 3, 3, api.BadText)
	}
}

// P501: signs that may not stand where they do.
func TestParseOutOfPlace(t *testing.T) {
	for s, col := range map[string]int{
		"]": 1, "}": 1, ",": 1, ":": 1, "x": 1, "(": 1,
		"[,]": 2, "[,1]": 2, "[1,]": 4, "[1,,2]": 4, "[1 2]": 4, "[1:2]": 3, "[}": 2, "[1}": 3, "[1,}": 4, "[:": 2, "[]]": 3, "[][]": 3, "[],": 3, "[]x": 3, "[1],2": 4, "[] 1": 4, "[[1]": 5, "[[]}": 4, "[\"a\":1]": 5,
		"{]": 2, "{,}": 2, "{:1}": 2, "{1:2}": 2, "{true:1}": 2, "{[]:1}": 2, "{{}:1}": 2, "{a:1}": 2, "{'a':1}": 2, "{x": 2,
		"{\"a\"}": 5, "{\"a\",": 5, "{\"a\" 1}": 6, "{\"a\"\"b\"}": 5, "{\"a\"=1}": 5, "{\"a\"::1}": 6, "{\"a\":}": 6, "{\"a\":,": 6, "{\"a\":]": 6, "{\"a\":x}": 6,
		"{\"a\":1]": 7, "{\"a\":1:": 7, "{\"a\":1,}": 8, "{\"a\":1,,": 8, "{\"a\":1,2}": 8, "{\"a\":1,[": 8, "{\"a\":1,{": 8, "{\"a\":1 \"b\":2}": 8, "{\"a\":1}}": 8, "{\"a\":1}{": 8, "{}{}": 3, "{},{}": 3, "{} x": 4,
		"\"a\":1": 4, "\"a\",": 4, "1,2": 2, "true,": 5, "1]": 2, "0}": 2,
	} {
		expectFault(t, s, 1, col, api.BadText)
		expectFault(t, " \n\t"+s, 2, 1+col, api.BadText)
		expectFault(t, s+"\x00[[[[[[[[[", 1, col, api.BadText)
	}
	expectFault(t, "[1,\n\t2,\n 3 4]", 3, 4, api.BadText)
}

// W1, P501: bad bytes: where they stand outside quoted texts; within these the text is none at its first byte.
func TestParseBadBytes(t *testing.T) {
	for b := range 256 {
		one := string([]byte{byte(b)})
		if b == '\t' || b == '\n' || b >= ' ' && b <= '~' {
			continue
		}
		expectFault(t, one, 1, 1, api.BadText)
		expectFault(t, one+"[]", 1, 1, api.BadText)
		expectFault(t, "[]"+one, 1, 3, api.BadText)
		expectFault(t, "[1"+one+"]", 1, 3, api.BadText)
		expectFault(t, "[1,\n\n 2,"+one+"3]", 3, 4, api.BadText)
		expectFault(t, "{\n\"a\":1}\n "+one, 3, 2, api.BadText)
		expectFault(t, "{\"a\""+one+":1}", 1, 5, api.BadText)
		expectFault(t, "\""+one+"\"", 1, 1, api.BadText)
		expectFault(t, "[\"ab\",\n \"c"+one+"\"]", 2, 2, api.BadText)
		expectFault(t, "{\"a\":1,\n\n\"b"+one+"\":1}", 3, 1, api.BadText)
		expectFault(t, "{\"a\":1,\n\n\"b\":\"\\"+one+"\"}", 3, 5, api.BadText)
		expectFault(t, "[x"+one, 1, 2, api.BadText)
	}
	expectFault(t, "[\"\u00e9\"]", 1, 2, api.BadText)
	expectFault(t, "[1,\u00e9]", 1, 4, api.BadText)
}

// opens answers the signs that open n lists or maps, one within another: of the bits of which the ones that are 1 are maps.
func opens(n, which int) string {
	s := ""
	for i := range n {
		if which>>i&1 == 1 {
			s += `{"a":`
		} else {
			s += "["
		}
	}
	return s
}

// closes answers what closes opens, with what stands within.
func closes(n, which int) string {
	s := ""
	for i := range n {
		if which>>i&1 == 1 {
			s = "}" + s
		} else {
			s = "]" + s
		}
	}
	return s
}

// P501: lists and maps within seven others may stand, within eight not; a nine deep one is wrong at its eighth inner one.
func TestParseDeep(t *testing.T) {
	for which := range 1 << 8 {
		for _, within := range []string{"[]", "{}", "[1]", `{"b":2}`, "[ 1, 2 ]"} {
			for n := 6; n <= 8; n++ {
				s := opens(n, which) + within + closes(n, which)
				if n < 8 {
					if v, at, e := brace.Parse(s); e != api.OK || brace.Text(v) != strings.ReplaceAll(s, " ", "") {
						t.Errorf("Parse(%q): %v, %v, %v", s, v, at, e)
					}
				} else {
					expectFault(t, s, 1, 1+len(opens(8, which)), api.TooDeep)
				}
			}
		}
		s := opens(8, which)
		expectFault(t, s+" \n  [", 2, 3, api.TooDeep)
		expectFault(t, s+"{", 1, 1+len(s), api.TooDeep)
		expectFault(t, s+"[[[x", 1, 1+len(s), api.TooDeep)
		expectFault(t, s+"x", 1, 1+len(s), api.BadText)
		expectFault(t, s+"1[", 1, 2+len(s), api.BadText)
		expectFault(t, s, 1, 1+len(s), api.BadText)
		if v, _, e := brace.Parse(s + `"[[{{"` + closes(8, which)); e != api.OK {
			t.Errorf("Parse(%q): %v, %v", s, v, e)
		}
	}
	expectFault(t, strings.Repeat("[", 8000), 1, 9, api.TooDeep)
	expectFault(t, strings.Repeat("[", 7)+"{[", 1, 9, api.BadText)
	expectFault(t, strings.Repeat("[", 7)+"{{", 1, 9, api.BadText)
	expectFault(t, strings.Repeat("[", 7)+"{\"a\":1,{", 1, 15, api.BadText)
	expectFault(t, "[x,[[[[[[[[[", 1, 2, api.BadText)
}

// P501: how deep is counted by what is open, not by what was opened.
func TestParseDeepAgain(t *testing.T) {
	deep := strings.Repeat("[", 7) + "{}" + strings.Repeat("]", 7)
	eight := strings.Repeat("[", 6) + "{\"a\":[]}" + strings.Repeat("]", 6)
	for _, s := range []string{"[" + deep[1:len(deep)-1] + "," + deep[1:len(deep)-1] + "]", "[" + eight[1:] + " ", strings.Repeat("[[],", 7) + "[]" + strings.Repeat("]", 7)} {
		if v, at, e := brace.Parse(s); e != api.OK || brace.Text(v) != strings.TrimSpace(s) {
			t.Errorf("Parse(%q): %v, %v, %v", s, v, at, e)
		}
	}
	wide := "[" + strings.Repeat("[],{},", 1000) + "[]]"
	if v, at, e := brace.Parse(wide); e != api.OK || len(v.L) != 2001 {
		t.Errorf("Parse of a wide list: %d, %v, %v", len(v.L), at, e)
	}
	expectFault(t, "["+deep+","+deep+"]", 1, 9, api.TooDeep)
	expectFault(t, "[[],[[]],"+deep+"]", 1, 17, api.TooDeep)
}

// P501: a key that is there already is wrong at its first byte, however it is written, whatever is behind it.
func TestParseTwice(t *testing.T) {
	expectFault(t, `{"a":1,"a":2}`, 1, 8, api.Twice)
	expectFault(t, `{"a":1,"b":2,"a":1}`, 1, 14, api.Twice)
	expectFault(t, `{"a":1,"b":2,"b":1}`, 1, 14, api.Twice)
	expectFault(t, "{\"a\":1,\n \"a\" 2}", 2, 2, api.Twice)
	expectFault(t, `{"a":1,"a"`, 1, 8, api.Twice)
	expectFault(t, `{"a":1,"a"x`, 1, 8, api.Twice)
	expectFault(t, `{"":1,"":1}`, 1, 7, api.Twice)
	expectFault(t, `{"/":1,"\/":2}`, 1, 8, api.Twice)
	expectFault(t, `{"\/":1,"/":2}`, 1, 9, api.Twice)
	expectFault(t, `{"a\/\n\t\"\\":1,"a/\n\t\"\\":2}`, 1, 18, api.Twice)
	expectFault(t, `[{"a":{"b":1,"c":2},"a":1}]`, 1, 21, api.Twice)
	expectFault(t, `{"a":[{"b":1,"b":2}],"a":1}`, 1, 14, api.Twice)
	expectFault(t, `{"a":1,"a`, 1, 8, api.BadText)
	expectFault(t, `{"a":1 "a":1}`, 1, 8, api.BadText)
	expectFault(t, `{"a":x,"a":1}`, 1, 6, api.BadText)
	expectFault(t, `{"a":1,"a":[[[[[[[[[[`, 1, 8, api.Twice)
	expectFault(t, `{"a":[[[[[[[[[[,"a":1`, 1, 13, api.TooDeep)
	// Others that are alike may stand: in other maps, as values, in other letters.
	expectValue(t, `{"a":{"a":"a"}}`, pairs("a", pairs("a", quoted("a"))))
	expectValue(t, `{"a":{"b":1},"b":{"a":1,"b":2}}`, pairs("a b", pairs("b", number(1)), pairs("a b", number(1), number(2))))
	expectValue(t, `{"a":1,"A":2,"aa":3,"":4}`, api.Value{Kind: api.VMap, Keys: []string{"a", "A", "aa", ""}, L: []api.Value{number(1), number(2), number(3), number(4)}})
	expectValue(t, `["a","a"]`, list(quoted("a"), quoted("a")))
	var keys []string
	for i := range 800 {
		keys = append(keys, `"`+strconv.Itoa(i)+`":1`)
	}
	if v, at, e := brace.Parse("{" + strings.Join(keys, ",") + "}"); e != api.OK || len(v.Keys) != 800 || len(v.L) != 800 {
		t.Errorf("Parse of many keys: %d, %v, %v", len(v.Keys), at, e)
	}
	many := "{" + strings.Join(keys, ",") + ","
	expectFault(t, many+`"0":1}`, 1, 1+len(many), api.Twice)
}

// P501: Text of each kind of value.
func TestText(t *testing.T) {
	for want, v := range map[string]api.Value{
		`""`: quoted(""), `"a b"`: quoted("a b"), `"\"\\\n\t/"`: quoted("\"\\\n\t/"),
		"0": number(0), "7": number(7), "-7": number(-7), "999999999": number(999999999), "-999999999": number(-999999999),
		"true": yes(), "false": no(),
		"[]": list(), "{}": pairs(""), "[[]]": list(list()), "[{}]": list(pairs("")),
		"[1]": list(number(1)), "[1,-2,\"x\",true,false]": list(number(1), number(-2), quoted("x"), yes(), no()),
		`{"k":0}`: pairs("k", number(0)), `{"b":[1,2],"a":{"c":"d"}}`: pairs("b a", list(number(1), number(2)), pairs("c", quoted("d"))),
		`{"\"\n":1}`: {Kind: api.VMap, Keys: []string{"\"\n"}, L: []api.Value{number(1)}},
		`{"":""}`:    {Kind: api.VMap, Keys: []string{""}, L: []api.Value{quoted("")}},
	} {
		if got := brace.Text(v); got != want {
			t.Errorf("Text: %s, want %s", got, want)
		}
		expectValue(t, want, v)
	}
	if got := brace.Text(api.Value{Kind: api.VList, L: []api.Value{}}) + brace.Text(api.Value{Kind: api.VMap, Keys: []string{}, L: []api.Value{}}); got != "[]{}" {
		t.Errorf("Text of empty lists: %s", got)
	}
}

// P1, P8: Text of what Parse does not tell ends, and does not panic.
func TestTextOfOdd(t *testing.T) {
	for _, v := range []api.Value{
		{}, {Kind: -1}, {Kind: 6, S: "a", L: repeated(number(1), 3)}, {Kind: math.MaxInt}, {Kind: math.MinInt},
		number(math.MaxInt), number(math.MinInt), {Kind: api.VBool, N: -5}, quoted("\x00\xff\u00e9"),
		{Kind: api.VMap, Keys: []string{"a", "b"}}, {Kind: api.VMap, L: repeated(number(1), 3)}, {Kind: api.VMap, Keys: []string{"a", "a"}, L: repeated(yes(), 1)}, {Kind: api.VMap, Keys: []string{"\xff"}, L: repeated(yes(), 3)},
		{Kind: api.VList, Keys: []string{"a"}, L: repeated(api.Value{}, 3)}, {Kind: api.VText, L: repeated(yes(), 2), Keys: []string{""}},
	} {
		brace.Text(v)
		brace.Text(list(v, v))
		brace.Text(pairs("a b", v, v))
	}
	v := api.Value{}
	for range 1000 {
		v = list(v)
	}
	brace.Text(v)
}
