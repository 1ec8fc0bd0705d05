package span

import (
	"strings"

	"transhumance/api"
	"transhumance/ver"
)

// meant answers the versions that a word by itself asks for, or false.
func meant(word string) ([]api.Span, bool) {
	if word == "*" {
		return Not(nil), true
	}
	if l, is := wild(word); is {
		return l, true
	}
	// No sign has a v in it, and each version begins with one.
	sign := word[:max(strings.IndexByte(word, 'v'), 0)]
	v, is := ver.Parse(word[len(sign):])
	if !is {
		return nil, false
	}
	return signed(sign, v)
}

// wild answers the versions of a word that leaves C, or B and C, open by an x, or false.
func wild(word string) ([]api.Span, bool) {
	given, is := strings.CutSuffix(word, ".x")
	if !is {
		return nil, false
	}
	// A Pre may end with .x, too: a nought in its place is part of the Pre then.
	if v, is := ver.Parse(given + ".0"); is && v.Pre == "" {
		from := first(v.A, v.B, 0)
		return only(from, from.bumpB()), true
	}
	if v, is := ver.Parse(given + ".0.0"); is && v.Pre == "" {
		from := first(v.A, 0, 0)
		return only(from, from.bumpA()), true
	}
	return nil, false
}

// signed answers the versions that a sign ahead of v asks for, or false.
func signed(sign string, v api.Ver) ([]api.Span, bool) {
	from, past := ahead(v), behind(v)
	switch sign {
	case "", "=":
		return only(from, past), true
	case "!=":
		return Not(only(from, past)), true
	case ">":
		return only(past, end()), true
	case ">=":
		return only(from, end()), true
	case "<":
		return only(start(), from), true
	case "<=":
		return only(start(), past), true
	case "^":
		return only(from, from.bumpLeading()), true
	case "~":
		return only(from, from.bumpB()), true
	}
	return nil, false
}

// bumpLeading bumps the first of A and B that is above 0, or C.
func (c cut) bumpLeading() cut {
	switch {
	case c.A > 0:
		return c.bumpA()
	case c.B > 0:
		return c.bumpB()
	}
	return c.bumpC()
}

func (c cut) bumpA() cut {
	if c.A == api.MaxPart {
		return end()
	}
	return first(c.A+1, 0, 0)
}

func (c cut) bumpB() cut {
	if c.B == api.MaxPart {
		return c.bumpA()
	}
	return first(c.A, c.B+1, 0)
}

func (c cut) bumpC() cut {
	if c.C == api.MaxPart {
		return c.bumpB()
	}
	return first(c.A, c.B, c.C+1)
}
