package span

import (
	"strings"

	"transhumance/api"
	"transhumance/ver"
)

// Parse reads which versions s asks for, or tells the first byte by which it asks for none.
func Parse(s string) ([]api.Span, int, api.Errno) {
	r := reader{text: s}
	l, is := r.parts()
	if !is {
		return nil, r.at, api.BadRange
	}
	return l, 0, api.OK
}

// reader is how far a text has been read. Where a step of it answers false, it is at the byte that is wrong.
type reader struct {
	text string
	at   int
}

// parts reads the whole text.
func (r *reader) parts() ([]api.Span, bool) {
	var l [][]api.Span
	for {
		one, is := r.part()
		if !is {
			return nil, false
		}
		l = append(l, one)
		if r.done() {
			return Or(l...), true
		}
		if !r.bars() {
			return nil, false
		}
	}
}

// part reads up to the next bar, or the end.
func (r *reader) part() ([]api.Span, bool) {
	var l [][]api.Span
	r.blanks()
	for {
		one, is := r.item()
		if !is {
			return nil, false
		}
		l = append(l, one)
		r.blanks()
		if r.done() || r.text[r.at] == '|' {
			return common(l...), true
		}
	}
}

// item reads one of those that hold together: a word, or two versions with `-` between.
func (r *reader) item() ([]api.Span, bool) {
	word := r.word()
	l, is := meant(word)
	if !is {
		return nil, false
	}
	r.at += len(word)
	r.blanks()
	v, is := ver.Parse(word)
	if !is || r.word() != "-" {
		return l, true
	}
	r.at++
	r.blanks()
	word = r.word()
	w, is := ver.Parse(word)
	if !is {
		return nil, false
	}
	r.at += len(word)
	return only(ahead(v), behind(w)), true
}

// bars reads the two bars between parts.
func (r *reader) bars() bool {
	for range 2 {
		if r.done() || r.text[r.at] != '|' {
			return false
		}
		r.at++
	}
	return true
}

func (r *reader) blanks() {
	for !r.done() && r.text[r.at] == ' ' {
		r.at++
	}
}

// word is the word that is next, of no bytes where a bar or the end is. The reader stays ahead of it.
func (r *reader) word() string {
	rest := r.text[r.at:]
	if n := strings.IndexAny(rest, " |"); n >= 0 {
		return rest[:n]
	}
	return rest
}

func (r *reader) done() bool { return r.at == len(r.text) }
