package brace

import (
	"slices"
	"strings"

	"transhumance/api"
	"transhumance/text"
)

const blanks = " \t\n"

// reader goes through a text, value by value. Where a step of it answers an error, it is at the byte that is wrong.
type reader struct {
	*text.Cursor
	text string
	deep int // lists and maps that the next byte is within
}

// rest is what has not been read.
func (r *reader) rest() string { return r.text[r.At():] }

// whole reads a value with nothing behind it.
func (r *reader) whole() (api.Value, api.Errno) {
	v, e := r.value()
	if e != api.OK {
		return v, e
	}
	if _, more := r.Peek(); more {
		return v, api.BadText
	}
	return v, api.OK
}

// value reads a value, and the blanks around it.
func (r *reader) value() (api.Value, api.Errno) {
	r.While(blanks)
	v, e := r.bare()
	if e == api.OK {
		r.While(blanks)
	}
	return v, e
}

// bare reads a value that begins here.
func (r *reader) bare() (api.Value, api.Errno) {
	switch b, _ := r.Peek(); b {
	case '"':
		return r.quoted()
	case '[':
		return r.list()
	case '{':
		return r.pairs()
	}
	switch {
	case r.Take("true"):
		return api.Value{Kind: api.VBool, N: 1}, api.OK
	case r.Take("false"):
		return api.Value{Kind: api.VBool}, api.OK
	}
	return r.number()
}

func (r *reader) quoted() (api.Value, api.Errno) {
	said, used, is := text.Unquote(r.rest())
	if !is {
		return api.Value{}, api.BadText
	}
	r.pass(used)
	return api.Value{Kind: api.VText, S: said}, api.OK
}

func (r *reader) number() (api.Value, api.Errno) {
	row := numberRow(r.rest())
	digits, below := strings.CutPrefix(row, "-")
	n, is := text.Number(digits)
	if !is || below && n == 0 {
		return api.Value{}, api.BadText
	}
	r.pass(len(row))
	if below {
		n = -n
	}
	return api.Value{Kind: api.VNum, N: n}, api.OK
}

// numberRow is the longest row of digits that s begins with, with a `-` ahead of it or not.
func numberRow(s string) string {
	for i, sign := range s {
		minus := sign == '-' && i == 0
		digit := sign >= '0' && sign <= '9'
		if !minus && !digit {
			return s[:i]
		}
	}
	return s
}

func (r *reader) list() (api.Value, api.Errno) {
	v := api.Value{Kind: api.VList}
	e := r.inside("[", "]", func() api.Errno {
		one, e := r.value()
		v.L = append(v.L, one)
		return e
	})
	return v, e
}

func (r *reader) pairs() (api.Value, api.Errno) {
	v := api.Value{Kind: api.VMap}
	e := r.inside("{", "}", func() api.Errno {
		key, e := r.key(v.Keys)
		if e != api.OK {
			return e
		}
		one, e := r.value()
		v.Keys = append(v.Keys, key)
		v.L = append(v.L, one)
		return e
	})
	return v, e
}

// key reads a key that is none of those ahead of it, and the colon behind it.
func (r *reader) key(ahead []string) (string, api.Errno) {
	r.While(blanks)
	key, used, is := text.Unquote(r.rest())
	if !is {
		return "", api.BadText
	}
	if slices.Contains(ahead, key) {
		return "", api.Twice
	}
	r.pass(used)
	r.While(blanks)
	if !r.Take(":") {
		return "", api.BadText
	}
	return key, api.OK
}

// inside reads from open to end: items, and the commas between them. An item reads the blanks around it, too.
func (r *reader) inside(open, end string, item func() api.Errno) api.Errno {
	if r.deep == api.MaxDeep {
		return api.TooDeep
	}
	r.deep++
	r.Take(open)
	r.While(blanks)
	if !r.Take(end) {
		if e := r.items(end, item); e != api.OK {
			return e
		}
	}
	r.deep--
	return api.OK
}

// items reads one item or more, up to end.
func (r *reader) items(end string, item func() api.Errno) api.Errno {
	for {
		if e := item(); e != api.OK {
			return e
		}
		if r.Take(end) {
			return api.OK
		}
		if !r.Take(",") {
			return api.BadText
		}
	}
}

// pass moves behind the next n bytes.
func (r *reader) pass(n int) { r.Take(r.rest()[:n]) }
