package brace_test

import (
	"math/rand"
	"slices"
	"strconv"
	"strings"
	"testing"

	"transhumance/api"
	"transhumance/brace"
)

// expectLocks fails unless Locks tells just these of s, with no place and no error.
func expectLocks(t *testing.T, s string, want ...api.Lock) {
	t.Helper()
	l, at, e := brace.Locks(s)
	if e != api.OK || at != (api.Place{}) || !slices.Equal(l, want) {
		t.Errorf("Locks(%.999q): %q, %v, %v, want %q", s, l, at, e, want)
	}
}

// expectNoLocks fails unless Locks answers e at this place, and nothing else (P4).
func expectNoLocks(t *testing.T, s string, line, col int, e api.Errno) {
	t.Helper()
	l, at, got := brace.Locks(s)
	if want := (api.Place{Line: line, Col: col}); got != e || at != want || len(l) > 0 {
		t.Errorf("Locks(%.999q): %q, %v, %v, want %v, %v", s, l, at, got, want, e)
	}
}

// expectWrong fails unless Locks answers e at the first place, of s by itself and behind other lines.
func expectWrong(t *testing.T, s string, e api.Errno) {
	t.Helper()
	expectNoLocks(t, s, 1, 1, e)
	expectNoLocks(t, "\n\n \t"+s+"\n", 1, 1, e)
}

// listed is the text of the locks that these maps tell.
func listed(maps ...string) string { return `{"locks":[` + strings.Join(maps, ",") + `]}` }

// row are so many locks, of Roots r0, r1 and so on.
func row(n int) []api.Lock {
	var l []api.Lock
	for i := range n {
		l = append(l, api.Lock{Root: "r" + strconv.Itoa(i), Rev: "x"})
	}
	return l
}

// rows are the maps of row.
func rows(n int) []string {
	var l []string
	for _, one := range row(n) {
		l = append(l, `{"path":"`+one.Root+`","revision":"x"}`)
	}
	return l
}

const right = `{"path":"a","version":"v1.2.3"}`

// P502: Parse's errors are told where Parse tells them, ahead of all others.
func TestLocksOfNoValue(t *testing.T) {
	expectNoLocks(t, "", 1, 1, api.BadText)
	expectNoLocks(t, "\n", 2, 1, api.BadText)
	expectNoLocks(t, "x", 1, 1, api.BadText)
	expectNoLocks(t, "{\n\"locks\":[1,}", 2, 12, api.BadText)
	expectNoLocks(t, "[]]", 1, 3, api.BadText)
	expectNoLocks(t, `{"locks":[{"path":1}],"locks":[]}`, 1, 23, api.Twice)
	expectNoLocks(t, listed(`{"path":"A","path":"b"}`), 1, 23, api.Twice)
	expectNoLocks(t, "{\"x\":\n[[[[[[[[[1", 2, 8, api.TooDeep)
	expectNoLocks(t, strings.Repeat(" ", 7999)+"[]", 1, 1, api.TooLong)
	expectNoLocks(t, strings.Repeat("\n", 8001), 1, 1, api.TooLong)
	expectNoLocks(t, listed(right)+"\x00", 1, len(listed(right))+1, api.BadText)
	expectNoLocks(t, "{\"locks\":[\n"+strings.Join(rows(41), ",\n"), 42, 1+len(rows(41)[40]), api.BadText)
}

// P502: the fields, each of its key, in any order, among others; what lacks, or is of no bytes, is nothing.
func TestLocksFields(t *testing.T) {
	expectLocks(t, "{}")
	expectLocks(t, " \n{ }\t")
	expectLocks(t, `{"locks":[]}`)
	expectLocks(t, `{"a":1,"lock":[1],"Locks":2,"":"locks"}`)
	expectLocks(t, listed(right), api.Lock{Root: "a", Version: "v1.2.3"})
	expectLocks(t, listed(`{"path":"a","revision":"R"}`), api.Lock{Root: "a", Rev: "R"})
	expectLocks(t, listed(`{"path":"a/b","revision":"R","version":"V","within":"W","origin":"s/o"}`), api.Lock{Root: "a/b", Rev: "R", Version: "V", Within: "W", Source: "s/o"})
	expectLocks(t, listed(`{"origin":"s/o","within":"W","version":"V","revision":"R","path":"a/b"}`), api.Lock{Root: "a/b", Rev: "R", Version: "V", Within: "W", Source: "s/o"})
	expectLocks(t, listed(`{"path":"a","revision":"","version":"v","within":"","origin":""}`), api.Lock{Root: "a", Version: "v"})
	expectLocks(t, listed(`{"path":"a","revision":"r","version":""}`), api.Lock{Root: "a", Rev: "r"})
	expectLocks(t, listed(`{"x":1,"path":"a","root":"b","Path":3,"version":"v","source":{"path":7},"rev":[],"":true}`), api.Lock{Root: "a", Version: "v"})
	expectLocks(t, `{"x":[1],"locks":[`+right+`],"y":{"locks":3}}`, api.Lock{Root: "a", Version: "v1.2.3"})
	expectLocks(t, listed(`{"path":"a","within":"\"\n\t\\\/ #","version":" "}`), api.Lock{Root: "a", Version: " ", Within: "\"\n\t\\/ #"})
	expectLocks(t, "\n{ \"locks\" : [ { \"path\"\n:\t\"a\" , \"version\" : \"v\" }\n, {\"path\":\"b\",\"revision\":\"r\"} ] }\n", api.Lock{Root: "a", Version: "v"}, api.Lock{Root: "b", Rev: "r"})
	// They stay in the order in which they stand.
	expectLocks(t, listed(`{"path":"z","version":"1"}`, `{"path":"b","version":"2"}`, `{"path":"m","version":"1"}`), api.Lock{Root: "z", Version: "1"}, api.Lock{Root: "b", Version: "2"}, api.Lock{Root: "m", Version: "1"})
}

// P502: texts that are not of the form, in each of its places, are BadText at the first place.
func TestLocksOfNoForm(t *testing.T) {
	for _, other := range []string{"0", "-7", "true", "false", `""`, `"a"`, `{"a":1}`, "{}", "[]", "[1]", `["a"]`} {
		isMap := other[0] == '{'
		isText := other[0] == '"'
		isList := other[0] == '['
		if !isMap {
			expectWrong(t, other, api.BadText)
			expectWrong(t, listed(other), api.BadText)
			expectWrong(t, listed(right, other), api.BadText)
			expectWrong(t, listed(other, right), api.BadText)
		}
		if !isList {
			expectWrong(t, `{"locks":`+other+`}`, api.BadText)
			expectWrong(t, `{"x":[],"locks":`+other+`,"y":[`+right+`]}`, api.BadText)
		}
		for _, key := range []string{"path", "revision", "version", "within", "origin"} {
			full := `{"path":"x","revision":"x","version":"x","within":"x","origin":"x"}`
			changed := strings.Replace(full, `"`+key+`":"x"`, `"`+key+`":`+other, 1)
			if !isText {
				expectWrong(t, listed(changed), api.BadText)
				expectWrong(t, listed(`{"path":"b","version":"v"}`, changed), api.BadText)
				expectWrong(t, listed(`{"`+key+`":`+other+`}`), api.BadText)
			}
		}
	}
	expectWrong(t, "[["+right+"]]", api.BadText)
	expectWrong(t, "["+right+"]", api.BadText)
	expectWrong(t, listed("["+right+"]"), api.BadText)
	expectWrong(t, `{"locks":`+right+`}`, api.BadText)
}

// P502: a Root that lacks or is no path; a Source that is there and is none.
func TestLocksOfNoPath(t *testing.T) {
	long := strings.Repeat("a", 40)
	for _, s := range []string{"A", "a b", "/", "a/", "/a", "a//b", ".", "..", "a/../b", "a:b", " a", "a ", long + "a", "v1@", "~"} {
		expectWrong(t, listed(`{"path":"`+s+`","version":"v"}`), api.BadPath)
		expectWrong(t, listed(`{"path":"a","version":"v","origin":"`+s+`"}`), api.BadPath)
		expectWrong(t, listed(right, `{"path":"`+s+`","version":"v"}`), api.BadPath)
		expectWrong(t, listed(right, `{"path":"b","revision":"v","origin":"`+s+`"}`), api.BadPath)
	}
	expectWrong(t, listed(`{}`), api.BadPath)
	expectWrong(t, listed(`{"version":"v"}`), api.BadPath)
	expectWrong(t, listed(`{"path":"","version":"v"}`), api.BadPath)
	expectWrong(t, listed(`{"version":"v","origin":"a"}`), api.BadPath)
	expectWrong(t, listed(`{"path":"a\n","version":"v"}`), api.BadPath)
	for _, s := range []string{"a", "a/b", "a.b/c_d/v2", "-", "...", long} {
		expectLocks(t, listed(`{"path":"`+s+`","version":"v"}`), api.Lock{Root: s, Version: "v"})
		expectLocks(t, listed(`{"path":"a","version":"v","origin":"`+s+`"}`), api.Lock{Root: "a", Version: "v", Source: s})
	}
}

// P502: neither Rev nor Version.
func TestLocksOfNoVersion(t *testing.T) {
	expectWrong(t, listed(`{"path":"a"}`), api.BadText)
	expectWrong(t, listed(`{"path":"a","version":""}`), api.BadText)
	expectWrong(t, listed(`{"path":"a","revision":""}`), api.BadText)
	expectWrong(t, listed(`{"path":"a","version":"","revision":""}`), api.BadText)
	expectWrong(t, listed(`{"path":"a","within":"w","origin":"b"}`), api.BadText)
	expectWrong(t, listed(right, `{"path":"b","rev":"r"}`), api.BadText)
	expectLocks(t, listed(`{"path":"a","version":"none at all"}`), api.Lock{Root: "a", Version: "none at all"})
	expectLocks(t, listed(`{"path":"a","revision":"none","version":"?"}`), api.Lock{Root: "a", Rev: "none", Version: "?"})
}

// P502: a Root as of one ahead, next to it or not, whatever else they tell.
func TestLocksTwice(t *testing.T) {
	expectWrong(t, listed(right, right), api.Twice)
	expectWrong(t, listed(right, `{"path":"a","revision":"other","origin":"b"}`), api.Twice)
	expectWrong(t, listed(right, `{"path":"b","version":"v"}`, `{"path":"c","version":"v"}`, right), api.Twice)
	expectWrong(t, listed(append(rows(39), rows(1)...)...), api.Twice)
	expectLocks(t, listed(right, `{"path":"a/v2","version":"v","origin":"a"}`, `{"path":"aa","version":"v","origin":"a"}`), api.Lock{Root: "a", Version: "v1.2.3"}, api.Lock{Root: "a/v2", Version: "v", Source: "a"}, api.Lock{Root: "aa", Version: "v", Source: "a"})
}

// P502: 40 locks at most.
func TestLocksTooMany(t *testing.T) {
	for _, n := range []int{1, 2, 39, 40} {
		expectLocks(t, listed(rows(n)...), row(n)...)
	}
	for _, n := range []int{41, 42, 80, 200} {
		expectWrong(t, listed(rows(n)...), api.TooLong)
	}
	expectWrong(t, listed(append(rows(40), right)...), api.TooLong)
}

// P6, P502: of several faults the form's ahead of all, then those of the first lock that has one in their order, then that there are too many.
func TestLocksOfSeveralFaults(t *testing.T) {
	noPath, noSource, noVersion, noForm := `{"path":"A","version":"v"}`, `{"path":"c","version":"v","origin":"C"}`, `{"path":"b"}`, `{"path":"d","version":1}`
	// The form, even behind all others.
	for _, other := range []string{noPath, noSource, noVersion, right + "," + right, strings.Join(rows(41), ",")} {
		expectWrong(t, listed(other, noForm), api.BadText)
		expectWrong(t, listed(noForm, other), api.BadText)
		expectWrong(t, listed(other, "[]"), api.BadText)
	}
	expectWrong(t, listed(`{"path":"A","within":7}`), api.BadText)
	// Of one lock.
	expectWrong(t, listed(`{"path":"A"}`), api.BadPath)
	expectWrong(t, listed(`{"path":"a","origin":"B"}`), api.BadPath)
	expectWrong(t, listed(right, `{"path":"a","origin":"B"}`), api.BadPath)
	expectWrong(t, listed(right, `{"path":"a","origin":"B","version":"v"}`), api.BadPath)
	expectWrong(t, listed(right, `{"path":"a"}`), api.BadText)
	// Of the first lock, whatever those behind it have.
	expectWrong(t, listed(noVersion, noPath), api.BadText)
	expectWrong(t, listed(noPath, noVersion), api.BadPath)
	expectWrong(t, listed(right, right, noPath), api.Twice)
	expectWrong(t, listed(right, right, noVersion), api.Twice)
	expectWrong(t, listed(right, noSource, right), api.BadPath)
	expectWrong(t, listed(right, noVersion, right), api.BadText)
	// A lock that has a fault is one ahead, too: but its fault is the first.
	expectWrong(t, listed(noVersion, noVersion), api.BadText)
	// Too many, behind all that locks have.
	expectWrong(t, listed(append(rows(40), rows(1)...)...), api.Twice)
	expectWrong(t, listed(append(rows(40), noPath)...), api.BadPath)
	expectWrong(t, listed(append(rows(40), noVersion)...), api.BadText)
	expectWrong(t, listed(append(rows(41), noPath)...), api.BadPath)
	expectWrong(t, listed(append(rows(41), noVersion)...), api.BadText)
	expectWrong(t, listed(append(rows(41), rows(1)...)...), api.Twice)
	expectWrong(t, listed(append([]string{right, right}, rows(41)...)...), api.Twice)
}

// P502: Write, with and without each field, in the order of the form.
func TestWrite(t *testing.T) {
	for want, l := range map[string][]api.Lock{
		"":                                  nil,
		`{"path":"a","version":"v1.2.3"}`:   {{Root: "a", Version: "v1.2.3"}},
		`{"path":"a","revision":"r"}`:       {{Root: "a", Rev: "r"}},
		`{"path":"a/b","version":" #\"\\"}`: {{Root: "a/b", Version: " #\"\\"}},
		`{"path":"a","revision":"R","version":"V","within":"W","origin":"s/o"}`:                                       {{Root: "a", Rev: "R", Version: "V", Within: "W", Source: "s/o"}},
		`{"path":"a","revision":"R","within":"\n\t/","origin":"b"}`:                                                   {{Root: "a", Rev: "R", Within: "\n\t/", Source: "b"}},
		`{"path":"z","version":"v","origin":"b"},{"path":"a","version":"v"},{"path":"b","revision":"r","within":"*"}`: {{Root: "z", Version: "v", Source: "b"}, {Root: "a", Version: "v"}, {Root: "b", Rev: "r", Within: "*"}},
	} {
		if got := brace.Write(l); got != `{"locks":[`+want+"]}\n" {
			t.Errorf("Write(%q): %s, want %s", l, got, want)
		}
	}
	if got := brace.Write([]api.Lock{}); got != "{\"locks\":[]}\n" {
		t.Errorf("Write of an empty list: %s", got)
	}
}

// P503 (T4): Locks of Write are these: with and without each field, of each sign that may be in one, up to 8000 bytes.
func TestLocksOfWrite(t *testing.T) {
	expectLocks(t, brace.Write(nil))
	for set := range 1 << 4 {
		l := api.Lock{Root: "a/b"}
		for i, said := range []*string{&l.Rev, &l.Version, &l.Within, &l.Source} {
			if set>>i&1 == 1 {
				*said = []string{"0123", "v1", ">=v1 || \"x\"", "c.d"}[i]
			}
		}
		if l.Rev != "" || l.Version != "" {
			expectLocks(t, brace.Write([]api.Lock{l}), l)
			expectLocks(t, brace.Write(append(row(20), l)), append(row(20), l)...)
		}
	}
	for b := range 128 {
		if one := string(rune(b)); b == '\t' || b == '\n' || b >= ' ' && b <= '~' {
			l := api.Lock{Root: "a", Rev: one, Version: "x" + one + one, Within: one + "\\" + one}
			expectLocks(t, brace.Write([]api.Lock{l}), l)
		}
	}
	expectLocks(t, brace.Write(row(40)), row(40)...)
	l := api.Lock{Root: "a", Version: "v"}
	l.Within = strings.Repeat("w", 8000-len(brace.Write([]api.Lock{l}))-len(`,"within":""`))
	expectLocks(t, brace.Write([]api.Lock{l}), l)
	l.Within += "w"
	expectNoLocks(t, brace.Write([]api.Lock{l}), 1, 1, api.TooLong)
}

// P503 (T4): of locks by dice.
func TestLocksOfWriteByDice(t *testing.T) {
	die := rand.New(rand.NewSource(7))
	said := func() string {
		out := make([]byte, die.Intn(6))
		for i := range out {
			out[i] = " ~aA0\"\\/#:{}[],\n\t"[die.Intn(17)]
		}
		return string(out)
	}
	for range 3000 {
		l := row(die.Intn(8))
		for i := range l {
			l[i].Version, l[i].Within = said(), said()
			if l[i].Version != "" {
				l[i].Rev = said()
			}
			if die.Intn(2) == 0 {
				l[i].Source = "f/" + l[i].Root
			}
		}
		s := brace.Write(l)
		expectLocks(t, s, l...)
		if back, _, _ := brace.Locks(s); brace.Write(back) != s {
			t.Fatalf("Write of Locks of %s: %s", s, brace.Write(back))
		}
		if v, _, e := brace.Parse(s); e != api.OK || brace.Text(v)+"\n" != s {
			t.Fatalf("Text of Parse of %s: %s, %v", s, brace.Text(v), e)
		}
	}
}

// P1, P8: Write of what Locks does not tell ends, and does not panic.
func TestWriteOfOdd(t *testing.T) {
	brace.Write([]api.Lock{{}, {}, {Root: "\xff"}, {Source: "A", Within: "\x00"}})
	brace.Write(make([]api.Lock, 5000))
}

// P2: what is handed in, its spare room too, stays as it was.
func TestNothingHandedInChanges(t *testing.T) {
	room := append(row(3), api.Lock{Root: "spare", Version: "v"})
	was := slices.Clone(room)
	brace.Write(room[:2])
	if !slices.Equal(room, was) {
		t.Errorf("Write changed its list: %q", room)
	}
	v, _, _ := brace.Parse(`{"a":[1,2,{"b":[]}],"c":"d"}`)
	keys := append(v.Keys, "spare")
	l := append(v.L, number(7))
	before := brace.Text(v)
	v.Keys, v.L = keys[:2], l[:2]
	if brace.Text(v) != before || brace.Text(v) != before || keys[2] != "spare" || !same(l[2], number(7)) {
		t.Errorf("Text changed its value: %v, %v, %v", v, keys, l)
	}
}

// scratch writes over all lists of a value, their spare room too.
func scratch(v api.Value) {
	for _, one := range v.L {
		scratch(one)
	}
	l, keys := v.L[:cap(v.L)], v.Keys[:cap(v.Keys)]
	for i := range l {
		l[i] = api.Value{Kind: 9, S: "scratched"}
	}
	for i := range keys {
		keys[i] = "scratched"
	}
}

// P2, P3: answers are new memory, of which no two lists share any; the same calls answer the same.
func TestAnswersAreNew(t *testing.T) {
	s := `{"a":[1,2,[3],[4,5,6]],"b":{"c":1,"d":2,"e":[]},"f":{"c":1}}`
	v, _, _ := brace.Parse(s)
	w, _, _ := brace.Parse(s)
	scratch(v)
	if brace.Text(w) != s {
		t.Errorf("two answers share: %v", w)
	}
	for i := range 3 {
		scratch(w.L[i])
		u, _, _ := brace.Parse(s)
		for j := range 3 {
			if j > i && !same(w.L[j], u.L[j]) {
				t.Errorf("lists %d and %d of one answer share: %v", i, j, w.L[j])
			}
		}
		if !slices.Equal(w.Keys, u.Keys) {
			t.Errorf("keys share: %q", w.Keys)
		}
	}
	text := brace.Write(row(5))
	l, _, _ := brace.Locks(text)
	all := l[:cap(l)]
	for i := range all {
		all[i] = api.Lock{Root: "scratched"}
	}
	expectLocks(t, text, row(5)...)
}

// P1: of any bytes, Parse and Locks end, and tell an error with a place within the text, or none.
func TestAnyBytes(t *testing.T) {
	die := rand.New(rand.NewSource(9))
	base := listed(append(rows(3), `{"path":"a","version":"v","within":"\"w\"","x":[true,-1,{}]}`)...)
	for range 20000 {
		s := []byte(base)
		for range 1 + die.Intn(3) {
			s[die.Intn(len(s))] = byte(die.Intn(256))
		}
		v, at, e := brace.Parse(string(s))
		l, atLock, f := brace.Locks(string(s))
		if e != api.OK && (f != e || atLock != at || v.Kind != 0 || at.Line < 1 || at.Col < 1) {
			t.Fatalf("%q: %v, %v; Locks: %v, %v", s, at, e, atLock, f)
		}
		if f != api.OK && len(l) > 0 || f == api.OK && (atLock != api.Place{} || e != api.OK) || e == api.OK && f != api.OK && atLock != (api.Place{Line: 1, Col: 1}) {
			t.Fatalf("%q: Locks: %q, %v, %v", s, l, atLock, f)
		}
	}
}
