package table

import (
	"slices"

	"transhumance/api"
	"transhumance/path"
	"transhumance/text"
)

const (
	blanks  = " \t"
	letters = "abcdefghijklmnopqrstuvwxyz"
	// noted are the bytes that may stand behind a `#`: all that are not bad, but a line's end.
	noted = "\t !\"#$%&'()*+,-./0123456789:;<=>?@ABCDEFGHIJKLMNOPQRSTUVWXYZ[\\]^_`" + letters + "{|}~"
)

// reader goes through a text, line by line. Where a step of it answers an error, it is at the byte that is wrong.
type reader struct {
	*text.Cursor
	text  string
	locks []api.Lock // those that have ended
	open  *part      // the one that has not (nil: none began yet)
}

// part is a lock that is being read, and the keys that it has: a text of no bytes is told by a key, too.
type part struct {
	api.Lock
	keys []string
}

// rest is what has not been read.
func (r *reader) rest() string { return r.text[r.At():] }

// pass moves behind the next n bytes.
func (r *reader) pass(n int) { r.Take(r.rest()[:n]) }

// lines reads up to the text's end, where the last lock ends.
func (r *reader) lines() api.Errno {
	var e api.Errno
line:
	r.While(blanks)
	switch b, more := r.Peek(); {
	case !more || b == '\n' || b == '#':
		goto behind
	case b == header[0]:
		e = r.begin()
	default:
		e = r.pair()
	}
	if e != api.OK {
		return e
	}
behind:
	if e = r.nothing(); e != api.OK {
		return e
	}
	if r.Take("\n") {
		goto line
	}
	return r.end()
}

// nothing reads what may stand behind all of a line, up to its end.
func (r *reader) nothing() api.Errno {
	r.While(blanks)
	if r.Take("#") {
		r.While(noted)
	}
	if b, more := r.Peek(); more && b != '\n' {
		return api.BadText
	}
	return api.OK
}

// begin reads a header. The lock ahead ends where it begins, if it is one.
func (r *reader) begin() api.Errno {
	if n := alike(r.rest(), header); n < len(header) {
		r.pass(n)
		return api.BadText
	}
	if e := r.end(); e != api.OK {
		return e
	}
	if len(r.locks) == api.MaxRows {
		return api.TooLong
	}
	r.Take(header)
	r.open = &part{}
	return api.OK
}

// alike answers how many bytes s and other both begin with.
func alike(s, other string) int {
	n := 0
	for n < min(len(s), len(other)) && s[n] == other[n] {
		n++
	}
	return n
}

// end ends the open lock, if there is one.
func (r *reader) end() api.Errno {
	if r.open == nil {
		return api.OK
	}
	l := r.open.Lock
	if l.Root == "" || l.Version == "" && l.Rev == "" {
		return api.BadText
	}
	if slices.ContainsFunc(r.locks, func(ahead api.Lock) bool { return ahead.Root == l.Root }) {
		return api.Twice
	}
	r.locks = append(r.locks, l)
	return api.OK
}

// pair reads a key of the open lock, and what it tells.
func (r *reader) pair() api.Errno {
	// By a cursor of its own, as a key that may not stand here is wrong at its first byte.
	key := text.New(r.rest()).While(letters)
	f, e := r.field(key)
	if e != api.OK {
		return e
	}
	r.Take(key)
	r.While(blanks)
	if !r.Take("=") {
		return api.BadText
	}
	r.While(blanks)
	return r.value(f)
}

// field answers the field of the open lock that the key tells, if it may tell one here.
func (r *reader) field(key string) (field, api.Errno) {
	if r.open == nil {
		return field{}, api.BadText
	}
	fields := fieldsOf(&r.open.Lock)
	i := slices.IndexFunc(fields, func(f field) bool { return f.key == key })
	if i < 0 {
		return field{}, api.BadText
	}
	if slices.Contains(r.open.keys, key) {
		return field{}, api.Twice
	}
	r.open.keys = append(r.open.keys, key)
	return fields[i], api.OK
}

// value reads the quoted text that f is to say.
func (r *reader) value(f field) api.Errno {
	said, used, is := text.Unquote(r.rest())
	if !is {
		return api.BadText
	}
	if f.isPath && !path.Right(said) {
		return api.BadPath
	}
	*f.said = said
	r.pass(used)
	return api.OK
}
