package span

import (
	"cmp"

	"transhumance/api"
	"transhumance/ver"
)

// cut is a place in the row of all versions: just ahead of its own one, just behind it (past), or behind all there are (end). What lies between two cuts is all that a span can say, so that sets of versions are worked out by cuts alone.
type cut struct {
	api.Ver
	past, end bool
}

func ahead(v api.Ver) cut { return cut{Ver: v} }

func behind(v api.Ver) cut { return cut{Ver: v, past: true} }

// first is ahead of all versions of these three numbers.
func first(a, b, c int) cut { return ahead(api.Ver{A: a, B: b, C: c, Pre: "0"}) }

// start is ahead of all versions.
func start() cut { return first(0, 0, 0) }

func end() cut { return cut{end: true} }

// cmp answers -1, 0, 1: c is ahead of d, is d, is behind it.
func (c cut) cmp(d cut) int {
	if c.end || d.end {
		return cmpBool(c.end, d.end)
	}
	return cmp.Or(ver.Cmp(c.Ver, d.Ver), cmpBool(c.past, d.past))
}

// cmpBool holds that false is less than true.
func cmpBool(a, b bool) int {
	switch {
	case a == b:
		return 0
	case b:
		return -1
	}
	return 1
}

// later is that of the two that has more versions ahead of it.
func later(c, d cut) cut {
	if c.cmp(d) < 0 {
		return d
	}
	return c
}

// low is where the versions of s begin.
func low(s api.Span) cut { return cut{Ver: s.Lo, past: s.Above} }

// high is where the versions of s end.
func high(s api.Span) cut {
	if s.Open {
		return end()
	}
	return cut{Ver: s.Hi, past: s.In}
}

// between is the span from the one cut to the other.
func between(from, to cut) api.Span {
	if to.end {
		return api.Span{Lo: from.Ver, Above: from.past, Open: true}
	}
	return api.Span{Lo: from.Ver, Above: from.past, Hi: to.Ver, In: to.past}
}

// put adds what lies between the two cuts to l, unless that is empty.
func put(l []api.Span, from, to cut) []api.Span {
	if from.cmp(to) >= 0 {
		return l
	}
	return append(l, between(from, to))
}

// only is what lies between the two cuts, alone.
func only(from, to cut) []api.Span { return put(nil, from, to) }
