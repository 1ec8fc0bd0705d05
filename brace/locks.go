package brace

import (
	"slices"

	"transhumance/api"
	"transhumance/path"
	"transhumance/text"
)

// Locks reads the locks that s tells, or tells the first place by which it tells none.
func Locks(s string) ([]api.Lock, api.Place, api.Errno) {
	v, at, e := Parse(s)
	if e != api.OK {
		return nil, at, e
	}
	l, e := read(v)
	if e != api.OK {
		return nil, text.Place(s, 0), e
	}
	return l, api.Place{}, api.OK
}

// Write answers the text of braces that tells l.
func Write(l []api.Lock) string {
	all := api.Value{Kind: api.VList}
	for _, lock := range l {
		all.L = append(all.L, told(lock))
	}
	return Text(api.Value{Kind: api.VMap, Keys: []string{locksKey}, L: []api.Value{all}}) + "\n"
}

const locksKey = "locks"

// field is what a lock tells by one key.
type field struct {
	key  string
	said *string
}

// fieldsOf answers the fields of l, in the order in which they are written.
func fieldsOf(l *api.Lock) []field {
	return []field{
		{"path", &l.Root},
		{"revision", &l.Rev},
		{"version", &l.Version},
		{"within", &l.Within},
		{"origin", &l.Source},
	}
}

// told answers the map that tells l.
func told(l api.Lock) api.Value {
	m := api.Value{Kind: api.VMap}
	for _, f := range fieldsOf(&l) {
		if *f.said != "" {
			m.Keys = append(m.Keys, f.key)
			m.L = append(m.L, api.Value{Kind: api.VText, S: *f.said})
		}
	}
	return m
}

// read answers the locks that v tells, if each of them may be.
func read(v api.Value) ([]api.Lock, api.Errno) {
	l, is := formed(v)
	if !is {
		return nil, api.BadText
	}
	return l, fault(l)
}

// formed answers the locks that v tells, or false, if it is not of the form.
func formed(v api.Value) ([]api.Lock, bool) {
	if v.Kind != api.VMap {
		return nil, false
	}
	list, is := record{v}.at(locksKey)
	if !is {
		return nil, true
	}
	if list.Kind != api.VList {
		return nil, false
	}
	var out []api.Lock
	for _, one := range list.L {
		l, is := formedLock(one)
		if !is {
			return nil, false
		}
		out = append(out, l)
	}
	return out, true
}

func formedLock(v api.Value) (api.Lock, bool) {
	if v.Kind != api.VMap {
		return api.Lock{}, false
	}
	var l api.Lock
	for _, f := range fieldsOf(&l) {
		said, is := record{v}.at(f.key)
		if is && said.Kind != api.VText {
			return api.Lock{}, false
		}
		*f.said = said.S
	}
	return l, true
}

// record is a value that is a map.
type record struct{ api.Value }

// at answers what the key tells, or false, if it lacks.
func (r record) at(key string) (api.Value, bool) {
	i := slices.Index(r.Keys, key)
	if i < 0 {
		return api.Value{}, false
	}
	return r.L[i], true
}

// fault answers why the locks may not be: the first fault of the first one that has one, or that there are too many.
func fault(l []api.Lock) api.Errno {
	roots := map[string]int{}
	for i, one := range l {
		if e := ownFault(one); e != api.OK {
			return e
		}
		if _, ahead := roots[one.Root]; ahead {
			return api.Twice
		}
		roots[one.Root] = i
	}
	if len(l) > api.MaxRows {
		return api.TooLong
	}
	return api.OK
}

// ownFault answers why a lock, by itself, may not be.
func ownFault(l api.Lock) api.Errno {
	if !path.Right(l.Root) || l.Source != "" && !path.Right(l.Source) {
		return api.BadPath
	}
	if l.Rev == "" && l.Version == "" {
		return api.BadText
	}
	return api.OK
}
