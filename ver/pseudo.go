package ver

import (
	"strconv"
	"strings"

	"transhumance/api"
)

const (
	timeDigits = 14
	shortId    = 12 // signs of an id at least, and how many of them a pseudo version tells
	longId     = 40
)

// Pseudo answers the version of the revision id that was made at the time at behind v (has), or behind none.
func Pseudo(has bool, v api.Ver, at int, id string) (api.Ver, bool) {
	if !rightTime(at) || !rightId(id) {
		return api.Ver{}, false
	}
	p := behind(has, v, stamp(at, id))
	if !Right(p) {
		return api.Ver{}, false
	}
	return p, true
}

// behind is the version behind v (has), or behind none, that ends with last. It may come out too great or too long to be right.
func behind(has bool, v api.Ver, last string) api.Ver {
	switch {
	case !has:
		return api.Ver{Pre: last}
	case v == final(v):
		return api.Ver{A: v.A, B: v.B, C: v.C + 1, Pre: dotted("0", last)}
	}
	return api.Ver{A: v.A, B: v.B, C: v.C, Pre: dotted(v.Pre, "0", last)}
}

func rightTime(at int) bool { return at >= 0 && len(strconv.Itoa(at)) <= timeDigits }

func rightId(id string) bool {
	return len(id) >= shortId && len(id) <= longId && made(id, digits, "abcdef")
}

// stamp is the last word of a pseudo version's Pre.
func stamp(at int, id string) string {
	s := strconv.Itoa(at)
	return strings.Repeat("0", timeDigits-len(s)) + s + "-" + id[:shortId]
}

// Behind tells whether v ends as a pseudo version does: the time and the first signs of the id that it tells.
func Behind(v api.Ver) (at int, id string, is bool) {
	last := v.Pre[strings.LastIndexByte(v.Pre, '.')+1:]
	when, id, _ := strings.Cut(last, "-")
	if len(when) != timeDigits || !made(when, digits) || len(id) != shortId || !rightId(id) {
		return 0, "", false
	}
	return number(when), id, true
}
