package table_test

import (
	"math/rand"
	"slices"
	"strings"
	"testing"

	"transhumance/api"
	"transhumance/brace"
	"transhumance/table"
)

// P601: Write, with and without each field, in the order of the chapter, a line each.
func TestWrite(t *testing.T) {
	for want, l := range map[string][]api.Lock{
		"":    nil,
		right: {lockA},
		"[[lock]]\nroot = \"a\"\nrevision = \"r\"\n":                                                                              {{Root: "a", Rev: "r"}},
		"[[lock]]\nroot = \"a/b\"\nversion = \" #\\\"\\\\\"\n":                                                                    {{Root: "a/b", Version: " #\"\\"}},
		"[[lock]]\nroot = \"a\"\nversion = \"V\"\nrevision = \"R\"\nwithin = \"W\"\nsource = \"s/o\"\n":                           {{Root: "a", Rev: "R", Version: "V", Within: "W", Source: "s/o"}},
		"[[lock]]\nroot = \"a\"\nrevision = \"R\"\nwithin = \"\\n\\t/\"\nsource = \"b\"\n":                                        {{Root: "a", Rev: "R", Within: "\n\t/", Source: "b"}},
		"[[lock]]\nroot = \"z\"\nversion = \"v\"\nsource = \"b\"\n" + right + "[[lock]]\nroot = \"b\"\nrevision = \"[[lock]]\"\n": {{Root: "z", Version: "v", Source: "b"}, lockA, {Root: "b", Rev: "[[lock]]"}},
	} {
		if got := table.Write(l); got != want {
			t.Errorf("Write(%q): %q, want %q", l, got, want)
		}
	}
	if got := table.Write([]api.Lock{}); got != "" {
		t.Errorf("Write of an empty list: %q", got)
	}
	if got := table.Write(row(40)); got != rows(40) {
		t.Errorf("Write of forty: %q", got)
	}
}

// P602 (T4): Locks of Write are these: with and without each field, of each sign that may be in one, up to 8000 bytes.
func TestLocksOfWrite(t *testing.T) {
	expectLocks(t, table.Write(nil))
	for set := range 1 << 4 {
		l := api.Lock{Root: "a/b"}
		for i, said := range []*string{&l.Version, &l.Rev, &l.Within, &l.Source} {
			if set>>i&1 == 1 {
				*said = []string{"v1", "0123", ">=v1 || \"x\"", "c.d"}[i]
			}
		}
		if l.Rev != "" || l.Version != "" {
			expectLocks(t, table.Write([]api.Lock{l}), l)
			expectLocks(t, table.Write(append(row(20), l)), append(row(20), l)...)
			expectLocks(t, table.Write(append([]api.Lock{l}, row(20)...)), append([]api.Lock{l}, row(20)...)...)
		}
	}
	for b := range 128 {
		if one := string(rune(b)); b == '\t' || b == '\n' || b >= ' ' && b <= '~' {
			l := api.Lock{Root: "a", Rev: one, Version: "x" + one + one, Within: one + "\\" + one}
			expectLocks(t, table.Write([]api.Lock{l}), l)
		}
	}
	expectLocks(t, table.Write(row(40)), row(40)...)
	l := api.Lock{Root: "a", Version: "v"}
	l.Within = strings.Repeat("w", 8000-len(table.Write([]api.Lock{l}))-len("within = \"\"\n"))
	expectLocks(t, table.Write([]api.Lock{l}), l)
	l.Within += "w"
	expectFault(t, table.Write([]api.Lock{l}), 1, 1, api.TooLong)
}

// diced are locks as Locks tells, by dice.
func diced(die *rand.Rand) []api.Lock {
	said := func() string {
		out := make([]byte, die.Intn(6))
		for i := range out {
			out[i] = " ~aA0\"\\/#=[]l\n\t"[die.Intn(15)]
		}
		return string(out)
	}
	l := row(die.Intn(8))
	for i := range l {
		l[i].Version, l[i].Within = said(), said()
		if l[i].Version != "" {
			l[i].Rev = said()
		}
		if die.Intn(2) == 0 {
			l[i].Source = "f/" + l[i].Root
		}
	}
	return l
}

// P602 (T4): of locks by dice; Write of them again is the same text.
func TestLocksOfWriteByDice(t *testing.T) {
	die := rand.New(rand.NewSource(7))
	for range 3000 {
		l := diced(die)
		s := table.Write(l)
		expectLocks(t, s, l...)
		if back, _, _ := table.Locks(s); table.Write(back) != s {
			t.Fatalf("Write of Locks of %s: %s", s, table.Write(back))
		}
	}
}

// P602 (T6): in whatever order locks and keys stand, and with whatever around them, they are the same.
func TestOrderOfLocks(t *testing.T) {
	die := rand.New(rand.NewSource(8))
	for range 300 {
		l := diced(die)
		die.Shuffle(len(l), func(i, j int) { l[i], l[j] = l[j], l[i] })
		var s strings.Builder
		for _, one := range l {
			lines := strings.Split(strings.TrimSuffix(table.Write([]api.Lock{one}), "\n"), "\n")
			keys := lines[1:]
			die.Shuffle(len(keys), func(i, j int) { keys[i], keys[j] = keys[j], keys[i] })
			for _, line := range lines {
				s.WriteString("\n\t" + strings.Replace(line, " = ", "=", 1) + " # " + line + "\n")
			}
		}
		expectLocks(t, s.String(), l...)
	}
}

// P602 (T6): what a text of braces tells, a text of tables tells, too, and the other way round.
func TestLocksOfTheOtherForm(t *testing.T) {
	die := rand.New(rand.NewSource(10))
	for range 300 {
		l, _, _ := brace.Locks(brace.Write(diced(die)))
		expectLocks(t, table.Write(l), l...)
		m, _, _ := table.Locks(table.Write(l))
		if back, _, e := brace.Locks(brace.Write(m)); e != api.OK || !slices.Equal(back, l) {
			t.Fatalf("Locks of %s: %q, %v", brace.Write(m), back, e)
		}
	}
}

// P1, P8: Write of what Locks does not tell ends, and does not panic.
func TestWriteOfOdd(t *testing.T) {
	table.Write([]api.Lock{{}, {}, {Root: "\xff"}, {Source: "A", Within: "\x00"}})
	table.Write(make([]api.Lock, 5000))
}

// P2: what is handed in, its spare room too, stays as it was.
func TestNothingHandedInChanges(t *testing.T) {
	room := append(row(3), api.Lock{Root: "spare", Version: "v"})
	was := slices.Clone(room)
	table.Write(room[:2])
	if !slices.Equal(room, was) {
		t.Errorf("Write changed its list: %q", room)
	}
}

// P2, P3: answers are new memory, the spare room too; the same calls answer the same.
func TestAnswersAreNew(t *testing.T) {
	s := rows(5)
	l, _, _ := table.Locks(s)
	m, _, _ := table.Locks(s)
	all := l[:cap(l)]
	for i := range all {
		all[i] = api.Lock{Root: "scratched"}
	}
	if !slices.Equal(m, row(5)) {
		t.Errorf("two answers share: %q", m)
	}
	expectLocks(t, s, row(5)...)
}

// P5, P7: a call that answers an error changes nothing for those behind it.
func TestErrorsLeaveNothing(t *testing.T) {
	for _, s := range []string{right + "[[lock]]", right + "x", right + right, rows(41), "[[lock]]\nroot = \"A\""} {
		was, at, e := table.Locks(s)
		expectLocks(t, right, lockA)
		if again, atAgain, f := table.Locks(s); e == api.OK || !slices.Equal(was, again) || at != atAgain || e != f {
			t.Errorf("Locks(%q): %v, %v, then %v, %v", s, at, e, atAgain, f)
		}
	}
}
