package text_test

import (
	"math/rand"
	"slices"
	"strconv"
	"strings"
	"testing"

	"transhumance/text"
)

// P102, W1: 9, 10, 32 to 126 are plain, wherever they stand; no other byte is.
func TestPlain(t *testing.T) {
	for i := range 256 {
		b := string([]byte{byte(i)})
		want := i == 9 || i == 10 || i >= 32 && i <= 126
		for _, s := range []string{b, b + "a", "a" + b, "a" + b + "a", strings.Repeat("a", 9000) + b} {
			if got := text.Plain(s); got != want {
				t.Errorf("Plain, byte %d of %d: %v", i, len(s), got)
			}
		}
	}
	if !text.Plain("") || text.Plain("caf\u00e9") || text.Plain("a\r\n") {
		t.Error("Plain")
	}
}

// P102: numbers of one to nine digits.
func TestNumber(t *testing.T) {
	for s, want := range map[string]int{
		"0": 0, "1": 1, "9": 9, "10": 10, "90": 90, "100": 100, "909": 909, "123456789": 123456789,
		"99999999": 99999999, "100000000": 100000000, "999999999": 999999999,
	} {
		if n, is := text.Number(s); n != want || !is {
			t.Errorf("Number %q: %d, %v", s, n, is)
		}
	}
	for n := range 20000 {
		if got, is := text.Number(strconv.Itoa(n)); got != n || !is {
			t.Errorf("Number %d: %d, %v", n, got, is)
		}
	}
}

// P102, P4, P9: what is no number is refused, with zero.
func TestNumberRefuses(t *testing.T) {
	for _, s := range []string{
		"", "00", "01", "000000000", "012345678", "1000000000", "0000000001", "9999999999", "99999999999999999999",
		"-", "-1", "+1", "-0", " 1", "1 ", "1\n", "1.", "1.0", "1e3", "1_0", "0x1", "a", "1a", "a1", "12/", "12:", "/", ":",
		"1\x00", "\xff", "\u0661", strings.Repeat("1", 9000),
	} {
		if n, is := text.Number(s); n != 0 || is {
			t.Errorf("Number %q: %d, %v", s, n, is)
		}
	}
}

// P102: Sorted answers each once, rising as bytes.
func TestSorted(t *testing.T) {
	cases := []struct{ in, want []string }{
		{nil, nil},
		{[]string{}, nil},
		{[]string{""}, []string{""}},
		{[]string{"a"}, []string{"a"}},
		{[]string{"a", "a", "a"}, []string{"a"}},
		{[]string{"b", "a"}, []string{"a", "b"}},
		{[]string{"b", "a", "b", "", "a", ""}, []string{"", "a", "b"}},
		{[]string{"b", "aa", "a", "Z", "ab", "10", "9"}, []string{"10", "9", "Z", "a", "aa", "ab", "b"}},
		{[]string{"\xff", "\u00e9", "z", "\x00"}, []string{"\x00", "z", "\u00e9", "\xff"}},
	}
	for _, k := range cases {
		if got := text.Sorted(k.in...); !slices.Equal(got, k.want) {
			t.Errorf("Sorted %q: %q", k.in, got)
		}
	}
	if got := text.Sorted(); len(got) != 0 {
		t.Errorf("Sorted of none: %q", got)
	}
}

// P102: of any list: rising, nothing lost, nothing added.
func TestSortedOfManyLists(t *testing.T) {
	dice := rand.New(rand.NewSource(1))
	for range 2000 {
		in := make([]string, dice.Intn(12))
		for i := range in {
			in[i] = strings.Repeat("ab", 2)[dice.Intn(4):][:dice.Intn(2)] + strconv.Itoa(dice.Intn(12))
		}
		got := text.Sorted(in...)
		for i := 1; i < len(got); i++ {
			if got[i-1] >= got[i] {
				t.Fatalf("Sorted %q: %q", in, got)
			}
		}
		for _, s := range in {
			if !slices.Contains(got, s) {
				t.Fatalf("Sorted %q: %q", in, got)
			}
		}
		for _, s := range got {
			if !slices.Contains(in, s) {
				t.Fatalf("Sorted %q: %q", in, got)
			}
		}
	}
}

// P2: the list that is handed in, and its spare room, stay as they are, and the answer shares neither.
func TestSortedIsNewMemory(t *testing.T) {
	for _, row := range [][]string{{"c", "a", "c", "b", "x", "y"}, {"a", "b", "c", "d", "x", "y"}, {"a", "a", "a", "a", "x", "y"}} {
		kept := slices.Clone(row)
		got := text.Sorted(row[:4]...)
		if !slices.Equal(row, kept) {
			t.Errorf("Sorted changed %q to %q", kept, row)
		}
		got = got[:cap(got)]
		for i := range got {
			got[i] = "other"
		}
		if !slices.Equal(row, kept) {
			t.Errorf("the answer of %q shares memory with it", kept)
		}
	}
}
