package text

import (
	"strings"
)

// Quote answers s between quotes, on one line where its bytes are plain.
func Quote(s string) string {
	var out strings.Builder
	out.WriteByte('"')
	for i := range len(s) {
		if sign, is := escape(s[i]); is {
			out.WriteByte('\\')
			out.WriteByte(sign)
		} else {
			out.WriteByte(s[i])
		}
	}
	out.WriteByte('"')
	return out.String()
}

// Unquote reads the quoted text that s begins with: what it says, and how many bytes it has.
func Unquote(s string) (out string, used int, is bool) {
	q := quoted{Cursor: New(s)}
	if !q.Take(`"`) {
		return "", 0, false
	}
	for !q.Take(`"`) {
		if !q.sign() {
			return "", 0, false
		}
	}
	return string(q.said), q.At(), true
}

// quoted is a cursor within a quoted text, and what that has said so far.
type quoted struct {
	*Cursor
	said []byte
}

// sign reads one sign, by itself or behind a backslash; false, if it may not stand there. The closing quote is its caller's.
func (q *quoted) sign() bool {
	escaped := q.Take(`\`)
	b, is := q.next()
	if !is {
		return false
	}
	if escaped {
		b, is = unescape(b)
	} else {
		is = printable(b)
	}
	if is {
		q.said = append(q.said, b)
	}
	return is
}

// escape answers the sign that stands behind a backslash for b, or false where b stands for itself.
func escape(b byte) (byte, bool) {
	switch b {
	case '"', '\\':
		return b, true
	case '\n':
		return 'n', true
	case '\t':
		return 't', true
	}
	return 0, false
}

// unescape answers what a sign behind a backslash stands for, or false where it may not stand there.
func unescape(sign byte) (byte, bool) {
	switch sign {
	case '"', '\\', '/':
		return sign, true
	case 'n':
		return '\n', true
	case 't':
		return '\t', true
	}
	return 0, false
}
