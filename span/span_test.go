package span_test

import (
	"math"
	"slices"
	"strings"
	"testing"

	"transhumance/api"
	"transhumance/span"
	"transhumance/ver"
)

// The face of the package: this stops compiling if a signature changes.
var (
	_ func(string) ([]api.Span, int, api.Errno) = span.Parse
	_ func([]api.Span, api.Ver) bool            = span.Has
	_ func([]api.Span, []api.Span) []api.Span   = span.And
	_ func(...[]api.Span) []api.Span            = span.Or
	_ func([]api.Span) []api.Span               = span.Not
	_ func([]api.Span) string                   = span.Text
)

// parsed is what a text that is right asks for.
func parsed(t *testing.T, s string) []api.Span {
	t.Helper()
	l, at, e := span.Parse(s)
	if e != api.OK || at != 0 {
		t.Fatalf("Parse(%.99q): %d, %v", s, at, e)
	}
	return l
}

// version is the version of a text that is one.
func version(t *testing.T, s string) api.Ver {
	t.Helper()
	v, is := ver.Parse(s)
	if !is {
		t.Fatalf("no version: %q", s)
	}
	return v
}

// empty tells whether a span is, by the words of the chapter.
func empty(s api.Span) bool {
	c := ver.Cmp(s.Hi, s.Lo)
	return !s.Open && (c < 0 || c == 0 && (s.Above || !s.In))
}

// apart tells whether two spans have no common version, and do not touch, s ahead of u, by the words of the chapter.
func apart(s, u api.Span) bool {
	c := ver.Cmp(s.Hi, u.Lo)
	return !s.Open && (c < 0 || c == 0 && !s.In && u.Above)
}

// expectNormed fails unless the spans are.
func expectNormed(t *testing.T, l []api.Span) {
	t.Helper()
	for i, s := range l {
		switch {
		case !ver.Right(s.Lo), !ver.Right(s.Hi), empty(s):
			t.Fatalf("empty or not right: %v", l)
		case s.Open && (s.In || s.Hi != api.Ver{}):
			t.Fatalf("open, with an end: %v", l)
		case i > 0 && !apart(l[i-1], s):
			t.Fatalf("not apart: %v", l)
		}
	}
}

// spoil changes all of a list, and of the room behind it.
func spoil(l []api.Span) {
	l = l[:cap(l)]
	for i := range l {
		l[i] = api.Span{Lo: api.Ver{A: 7, Pre: "spoilt"}, Hi: api.Ver{A: 77}, Above: true, In: true}
	}
}

// edges are the versions that the sets below are made of, rising, the least of all first; between each two of them there are others.
var edges = []api.Ver{{Pre: "0"}, {C: 4, Pre: "a"}, {A: 1}, {A: 1, B: 2, C: 3}}

// Each version of edges, and what is between it and the next, is one bit of a set: bits is how many, and points a version of each.
const bits = 8

var points = []api.Ver{{Pre: "0"}, {Pre: "1"}, {C: 4, Pre: "a"}, {A: 0, B: 999999}, {A: 1}, {A: 1, B: 1}, {A: 1, B: 2, C: 3}, {A: 999999, B: 999999, C: 999999}}

// spans answers the normed spans of a set, by its rows of bits.
func spans(set int) []api.Span {
	var l []api.Span
	for from := 0; from < bits; from++ {
		if set>>from&1 == 0 {
			continue
		}
		to := from
		for to+1 < bits && set>>(to+1)&1 == 1 {
			to++
		}
		s := api.Span{Lo: edges[from/2], Above: from%2 == 1, Open: to == bits-1}
		if !s.Open {
			s.Hi, s.In = edges[(to+1)/2], to%2 == 0
		}
		l = append(l, s)
		from = to
	}
	return l
}

// expectSet fails unless l is just the normed spans of the set.
func expectSet(t *testing.T, what string, l []api.Span, set int) {
	t.Helper()
	if want := spans(set); !slices.Equal(l, want) {
		t.Fatalf("%s: %s, want %s", what, span.Text(l), span.Text(want))
	}
}

// P302: of all sets of some versions and what is between them: which versions they have, what they lack, and what is answered is normed.
func TestHasAndNot(t *testing.T) {
	all := 1<<bits - 1
	for set := range all + 1 {
		l := spans(set)
		expectNormed(t, l)
		for i, v := range points {
			if got, want := span.Has(l, v), set>>i&1 == 1; got != want {
				t.Fatalf("Has(%s, %s): %v", span.Text(l), ver.Text(v), got)
			}
		}
		expectSet(t, "Not of "+span.Text(l), span.Not(l), all&^set)
	}
}

// P302: of any two such sets what is in both, and what is in any.
func TestAndOr(t *testing.T) {
	for a := range 1 << bits {
		for b := range 1 << bits {
			x, y := spans(a), spans(b)
			expectSet(t, "And of "+span.Text(x)+"; "+span.Text(y), span.And(x, y), a&b)
			expectSet(t, "Or of "+span.Text(x)+"; "+span.Text(y), span.Or(x, y), a|b)
		}
	}
}

// P302: Or of none, of one, of many, in any order.
func TestOrOfMany(t *testing.T) {
	if len(span.Or()) > 0 || len(span.Or(nil)) > 0 || len(span.Or(nil, []api.Span{}, nil)) > 0 {
		t.Error("Or of nothing")
	}
	for set := range 1 << bits {
		var l [][]api.Span
		for i := range bits {
			if set>>i&1 == 1 {
				l = append(l, spans(1<<i), nil, spans(set&^(1<<i)))
			}
		}
		expectSet(t, "Or of many", span.Or(l...), set)
		slices.Reverse(l)
		expectSet(t, "Or of many", span.Or(l...), set)
		expectSet(t, "Or of one", span.Or(spans(set)), set)
	}
	x, y, z := parsed(t, "v3.0.0 - v4.0.0"), parsed(t, "v1.0.0 - v2.0.0"), parsed(t, ">=v2.0.0 <v3.0.0")
	if got := span.Text(span.Or(x, y, z)); got != "[v1.0.0,v4.0.0]" {
		t.Errorf("Or: %s", got)
	}
}

// P302: no list and an empty one are the same, and have no version.
func TestOfNothing(t *testing.T) {
	every := []api.Span{{Lo: api.Ver{Pre: "0"}, Open: true}}
	for _, none := range [][]api.Span{nil, {}} {
		if !slices.Equal(span.Not(none), every) || len(span.Not(every)) > 0 {
			t.Error("Not of nothing")
		}
		if len(span.And(none, every)) > 0 || len(span.And(every, none)) > 0 || len(span.And(none, none)) > 0 {
			t.Error("And of nothing")
		}
		if !slices.Equal(span.Or(none, every), every) || span.Text(none) != "-" {
			t.Error("Or, Text of nothing")
		}
		if span.Has(none, api.Ver{}) || span.Has(none, api.Ver{Pre: "0"}) {
			t.Error("Has of nothing")
		}
	}
}

// P302: spans that touch are one; spans between which one version lies are two.
func TestTouching(t *testing.T) {
	for _, k := range []struct{ a, b, want string }{
		{"<v1.0.0", ">=v1.0.0", "[v0.0.0-0,)"},
		{"<=v1.0.0", ">v1.0.0", "[v0.0.0-0,)"},
		{"<v1.0.0", ">v1.0.0", "[v0.0.0-0,v1.0.0) || (v1.0.0,)"},
		{"<=v1.0.0", ">=v1.0.0", "[v0.0.0-0,)"},
		{"v1.0.0", ">v1.0.0 <v2.0.0", "[v1.0.0,v2.0.0)"},
		{"v2.0.0", ">v1.0.0 <v2.0.0", "(v1.0.0,v2.0.0]"},
		{"v1.0.0", "v1.0.0 - v2.0.0", "[v1.0.0,v2.0.0]"},
		{"v1.x", "v2.x", "[v1.0.0-0,v3.0.0-0)"},
		{"<=v1.0.0-0", ">=v1.0.0-0.0", "[v0.0.0-0,v1.0.0-0] || [v1.0.0-0.0,)"},
		{"<v1.0.0-0.0", ">v1.0.0-0.0", "[v0.0.0-0,v1.0.0-0.0) || (v1.0.0-0.0,)"},
	} {
		x, y := parsed(t, k.a), parsed(t, k.b)
		if got := span.Text(span.Or(x, y)); got != k.want {
			t.Errorf("Or of %s, %s: %s", k.a, k.b, got)
		}
		if got := span.Text(span.Or(y, x)); got != k.want {
			t.Errorf("Or of %s, %s: %s", k.b, k.a, got)
		}
	}
}

// P302: a span that is open has no end, whatever stands there: Has, Text and the others see none, and tell none.
func TestOpenHasNoEnd(t *testing.T) {
	odd := []api.Span{{Lo: api.Ver{A: 1}, Hi: api.Ver{A: 2}, In: true, Open: true}}
	want := []api.Span{{Lo: api.Ver{A: 1}, Open: true}}
	if !span.Has(odd, api.Ver{A: 3}) || span.Text(odd) != "[v1.0.0,)" {
		t.Error("Has, Text")
	}
	if !slices.Equal(span.Or(odd), want) || !slices.Equal(span.And(odd, odd), want) || !slices.Equal(span.Not(odd), span.Not(want)) {
		t.Error("Or, And, Not")
	}
}

// P302: what tells each kind of span.
func TestText(t *testing.T) {
	a, b := api.Ver{A: 1, B: 2, C: 3}, api.Ver{A: 2, Pre: "rc.1"}
	for _, k := range []struct {
		l    []api.Span
		want string
	}{
		{[]api.Span{{Lo: a, Hi: b}}, "[v1.2.3,v2.0.0-rc.1)"},
		{[]api.Span{{Lo: a, Hi: b, In: true}}, "[v1.2.3,v2.0.0-rc.1]"},
		{[]api.Span{{Lo: a, Hi: b, Above: true}}, "(v1.2.3,v2.0.0-rc.1)"},
		{[]api.Span{{Lo: a, Hi: b, Above: true, In: true}}, "(v1.2.3,v2.0.0-rc.1]"},
		{[]api.Span{{Lo: a, Open: true}}, "[v1.2.3,)"},
		{[]api.Span{{Lo: a, Open: true, Above: true}}, "(v1.2.3,)"},
		{[]api.Span{{Lo: a, Hi: a, In: true}}, "[v1.2.3,v1.2.3]"},
		{[]api.Span{{Hi: a}, {Lo: a, Hi: b, Above: true}, {Lo: b, Above: true, Open: true}}, "[v0.0.0,v1.2.3) || (v1.2.3,v2.0.0-rc.1) || (v2.0.0-rc.1,)"},
	} {
		if got := span.Text(k.l); got != k.want {
			t.Errorf("Text(%v): %s, want %s", k.l, got, k.want)
		}
	}
	if got := span.Text(parsed(t, "^v1.2.3")); got != "[v1.2.3,v2.0.0-0)" {
		t.Errorf("the chapter's example: %s", got)
	}
}

// throw answers the k-th of many texts of ranges.
func throw(k int) string {
	next := func(n int) int {
		k = (k*1103515245 + 12345) & math.MaxInt32
		return (k >> 8) % n
	}
	some := []string{"v0.0.0-0", "v0.0.0-0.0", "v0.0.0", "v0.0.9", "v0.1.0-0", "v0.9.1", "v1.0.0-0", "v1.0.0-a", "v1.0.0", "v1.0.1", "v1.1.0-0", "v1.2.0", "v2.0.0-0", "v2.0.0", "v3.0.0", "v999999.999999.999999"}
	signs := []string{"", "=", "!=", ">", ">=", "<", "<=", "^", "~"}
	var words []string
	for i := range 1 + next(5) {
		if i > 0 && next(2) == 0 {
			words = append(words, "||")
		}
		switch next(8) {
		case 0:
			words = append(words, some[next(len(some))]+" - "+some[next(len(some))])
		case 1:
			words = append(words, []string{"v0.x", "v1.x", "v1.1.x", "v0.0.x", "*"}[next(5)])
		default:
			words = append(words, signs[next(len(signs))]+some[next(len(some))])
		}
	}
	return strings.Join(words, " ")
}

// P303: the laws of sets, each to the letter, as normed spans of one set are the same.
func TestLaws(t *testing.T) {
	and, or, not := span.And, span.Or, span.Not
	every := not(nil)
	for k := range 6000 {
		x, y, z := parsed(t, throw(3*k)), parsed(t, throw(3*k+1)), parsed(t, throw(3*k+2))
		expectNormed(t, x)
		for law, sides := range [][2][]api.Span{
			{not(not(x)), x},
			{and(x, x), x}, {or(x, x), x}, {or(x), x},
			{and(x, every), x}, {or(x, nil), x}, {and(x, nil), nil}, {or(x, every), every},
			{and(x, not(x)), nil}, {or(x, not(x)), every},
			{and(x, y), and(y, x)}, {or(x, y), or(y, x)},
			{and(x, and(y, z)), and(and(x, y), z)}, {or(x, or(y, z)), or(or(x, y), z)}, {or(x, y, z), or(or(x, y), z)}, {or(z, x, y), or(x, y, z)},
			{and(x, or(y, z)), or(and(x, y), and(x, z))}, {or(x, and(y, z)), and(or(x, y), or(x, z))},
			{and(x, or(x, y)), x}, {or(x, and(x, y)), x},
			{not(and(x, y)), or(not(x), not(y))}, {not(or(x, y)), and(not(x), not(y))},
			{or(and(x, y), and(x, not(y))), x},
		} {
			expectNormed(t, sides[0])
			if !slices.Equal(sides[0], sides[1]) {
				t.Fatalf("law %d of %s; %s; %s: %s, %s", law, span.Text(x), span.Text(y), span.Text(z), span.Text(sides[0]), span.Text(sides[1]))
			}
		}
	}
}

// P301, P302: a text's parts are what any of them asks for, its words what all of them do.
func TestTextsAsSets(t *testing.T) {
	for k := range 3000 {
		s, u := throw(2*k), throw(2*k+1)
		x, y := parsed(t, s), parsed(t, u)
		if !slices.Equal(parsed(t, s+"||"+u), span.Or(x, y)) {
			t.Fatalf("Parse(%q)", s+"||"+u)
		}
		if strings.Contains(s+u, "|") {
			continue
		}
		if !slices.Equal(parsed(t, s+" "+u), span.And(x, y)) {
			t.Fatalf("Parse(%q)", s+" "+u)
		}
	}
}

// P2: lists that are handed in, and the room behind them, stay as they were, and what is answered may be changed.
func TestListsStandAlone(t *testing.T) {
	calls := []func(a, b []api.Span) []api.Span{
		span.And,
		func(a, b []api.Span) []api.Span { return span.Or(a, b) },
		func(a, b []api.Span) []api.Span { return span.Or(b, a) },
		func(a, b []api.Span) []api.Span { return span.Or(a) },
		func(a, b []api.Span) []api.Span { return span.Or(a, nil) },
		func(a, b []api.Span) []api.Span { return span.Or([][]api.Span{a, b}...) },
		func(a, b []api.Span) []api.Span { return span.Not(a) },
		func(a, b []api.Span) []api.Span { span.Has(a, api.Ver{A: 1}); span.Text(b); return nil },
	}
	mark := api.Span{Lo: api.Ver{A: 5, Pre: "room"}}
	for x := range 1 << bits {
		for _, y := range []int{0, x, 1<<bits - 1, 0b10101010, 0b01010101, 1} {
			roomA, roomB := append(spans(x), mark, mark, mark), append(spans(y), mark, mark, mark)
			a, b := roomA[:len(roomA)-3], roomB[:len(roomB)-3]
			wasA, wasB := slices.Clone(roomA), slices.Clone(roomB)
			for i, call := range calls {
				first := call(a, b)
				was := slices.Clone(first)
				spoil(first)
				if !slices.Equal(roomA, wasA) || !slices.Equal(roomB, wasB) {
					t.Fatalf("call %d of %s; %s changed what it was handed", i, span.Text(a), span.Text(b))
				}
				if !slices.Equal(call(a, b), was) {
					t.Fatalf("call %d of %s; %s answers otherwise once its answer was changed", i, span.Text(a), span.Text(b))
				}
			}
		}
	}
}

// P2: the list of lists that Or is handed stays as it was.
func TestOrKeepsItsLists(t *testing.T) {
	a, b, c := parsed(t, "v3.x"), parsed(t, "v1.x"), parsed(t, "v2.0.0")
	room := [][]api.Span{a, b, c}
	span.Or(room[:2]...)
	for i, want := range []string{"[v3.0.0-0,v4.0.0-0)", "[v1.0.0-0,v2.0.0-0)", "[v2.0.0,v2.0.0]"} {
		if got := span.Text(room[i]); got != want {
			t.Errorf("list %d: %s", i, got)
		}
	}
}

// P1, P8, P2: of spans that are not normed, or not right, every call ends, none panics, and none changes them.
func TestNotNormed(t *testing.T) {
	a, b := api.Ver{A: 1}, api.Ver{A: 2}
	odd := [][]api.Span{
		{{}}, {{Open: true, In: true, Hi: b}}, {{Lo: b, Hi: a}}, {{Lo: a, Hi: a}}, {{Lo: a, Hi: a, Above: true, In: true}},
		{{Lo: a, Open: true}, {Lo: a, Open: true}}, {{Lo: b, Open: true}, {Lo: a, Hi: b}}, {{Lo: a, Hi: b}, {Lo: a, Hi: b}, {}},
		{{Lo: api.Ver{A: -1}, Hi: api.Ver{A: math.MaxInt}}}, {{Lo: api.Ver{Pre: ".."}, Hi: api.Ver{Pre: "\xff"}, In: true}, {Lo: api.Ver{Pre: "00"}}},
		{{Lo: api.Ver{A: math.MinInt, B: math.MaxInt}, Open: true}}, {{Lo: api.Ver{Pre: strings.Repeat(".", 5000)}, Open: true}},
	}
	for _, x := range odd {
		was := slices.Clone(x)
		for _, y := range odd {
			span.And(x, y)
			span.Or(x, y, x)
			span.And(span.Not(x), span.Or(y))
		}
		span.Text(x)
		for _, v := range []api.Ver{{}, {A: -1}, {A: math.MaxInt}, {Pre: "."}, {Pre: "\x00"}} {
			span.Has(x, v)
		}
		if !slices.Equal(x, was) {
			t.Errorf("changed: %v, was %v", x, was)
		}
	}
}
