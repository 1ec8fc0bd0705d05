package path_test

import (
	"slices"
	"testing"

	"transhumance/api"
	"transhumance/path"
)

// expectFound fails unless Find answers want ("": that there is none), in whatever order the list stands.
func expectFound(t *testing.T, l []string, root string, a int, want string) {
	t.Helper()
	turned := slices.Clone(l)
	for range max(len(l), 1) {
		for _, list := range [][]string{turned, backwards(turned)} {
			got, is := path.Find(list, root, api.Ver{A: a, B: 1})
			if got != want || is != (want != "") {
				t.Errorf("Find(%q, %q, A %d): %q, %v, want %q", list, root, a, got, is, want)
			}
		}
		if len(turned) > 0 {
			turned = append(turned[1:], turned[0])
		}
	}
}

func backwards(l []string) []string {
	out := slices.Clone(l)
	slices.Reverse(out)
	return out
}

// P402: there is none.
func TestFindNone(t *testing.T) {
	for _, root := range []string{"a", "a/b", "v2"} {
		expectFound(t, nil, root, 0, "")
		expectFound(t, []string{}, root, 2, "")
	}
	expectFound(t, []string{"a"}, "a", 2, "")
	expectFound(t, []string{"a"}, "b", 0, "")
	expectFound(t, []string{"a"}, "ab", 1, "")
	expectFound(t, []string{"a/b"}, "a", 1, "")
	expectFound(t, []string{"a/v2"}, "a", 1, "")
	expectFound(t, []string{"a/v2"}, "a", 0, "")
	expectFound(t, []string{"a/v2"}, "a", 3, "")
	expectFound(t, []string{"a/b/v2", "a", "b/v2"}, "a", 2, "")
	expectFound(t, []string{"a/v1"}, "a", 1, "")
	expectFound(t, []string{"a/v02"}, "a/v02", 2, "")
}

// P402: there is one that fits, and covers the root.
func TestFindOne(t *testing.T) {
	expectFound(t, []string{"a"}, "a", 0, "a")
	expectFound(t, []string{"a"}, "a", 1, "a")
	expectFound(t, []string{"a"}, "a/b/c", 1, "a")
	expectFound(t, []string{"a/v2"}, "a", 2, "a/v2")
	expectFound(t, []string{"a/v2"}, "a/v2", 2, "a/v2")
	expectFound(t, []string{"a/v2"}, "a/b", 2, "a/v2")
	expectFound(t, []string{"a/v2"}, "a/v3", 2, "a/v2")
	expectFound(t, []string{"a/v1"}, "a/v1", 1, "a/v1")
	expectFound(t, []string{"a/v1"}, "a/v1/x", 0, "a/v1")
	expectFound(t, []string{"a/v999999"}, "a", 999999, "a/v999999")
	expectFound(t, []string{"v2", "v2/v2"}, "v2", 2, "v2/v2")
	expectFound(t, []string{"v2", "v2/v2"}, "v2", 1, "v2")
	// The longest root is that of a path that does not fit, or that does not cover.
	expectFound(t, []string{"a", "a/b/v2"}, "a/b", 1, "a")
	expectFound(t, []string{"a/v2", "a/b"}, "a/b", 2, "a/v2")
	expectFound(t, []string{"a", "a/bc"}, "a/b", 1, "a")
	expectFound(t, []string{"a", "a/b/c"}, "a/b", 1, "a")
	expectFound(t, []string{"a", "longer/than/all"}, "a/b", 1, "a")
}

// P402: of roots within one another the longest, though it need not be that of the longest path.
func TestFindLongestRoot(t *testing.T) {
	l := []string{"a", "a/b", "a/b/c", "a/b/c/d", "a/v2", "a/b/v2", "a/b/c/v2", "a/v3", "a/v10"}
	expectFound(t, l, "a", 1, "a")
	expectFound(t, l, "a/b", 1, "a/b")
	expectFound(t, l, "a/b/x", 0, "a/b")
	expectFound(t, l, "a/b/c", 1, "a/b/c")
	expectFound(t, l, "a/b/c/d", 1, "a/b/c/d")
	expectFound(t, l, "a/b/c/d/e", 1, "a/b/c/d")
	expectFound(t, l, "a/b/cc", 1, "a/b")
	expectFound(t, l, "a", 2, "a/v2")
	expectFound(t, l, "a/b", 2, "a/b/v2")
	expectFound(t, l, "a/b/c/d/e", 2, "a/b/c/v2")
	expectFound(t, l, "a/b/c/d/e", 3, "a/v3")
	expectFound(t, l, "a/b", 10, "a/v10")
	expectFound(t, l, "a/b", 4, "")
	expectFound(t, l, "b", 2, "")
	// A number in the midst of a root is a word like any other.
	expectFound(t, []string{"a/v2", "a/v2/v2"}, "a/v2", 2, "a/v2/v2")
	expectFound(t, []string{"a/v2", "a/v2/v2"}, "a/v3", 2, "a/v2")
	expectFound(t, []string{"a/v1", "a"}, "a/v1", 1, "a/v1")
	expectFound(t, []string{"a/v100000", "a/b"}, "a/b", 100000, "a/v100000")
	expectFound(t, []string{"a/v100000", "a/b/v100000"}, "a/b", 100000, "a/b/v100000")
}

// P402: several of one length: of one root by what fits, of others by what covers; one that is there twice is found.
func TestFindOfOneLength(t *testing.T) {
	l := []string{"a/v2", "a/v3", "a/v4", "b/v2", "b/v3", "a", "b"}
	expectFound(t, l, "a", 3, "a/v3")
	expectFound(t, l, "a", 4, "a/v4")
	expectFound(t, l, "b/x", 2, "b/v2")
	expectFound(t, l, "b/x", 4, "")
	expectFound(t, l, "b/x", 1, "b")
	expectFound(t, []string{"a/v2", "a/v2", "a", "a"}, "a", 2, "a/v2")
	expectFound(t, []string{"a", "a", "a"}, "a/b", 0, "a")
}

// wanted is what Find has to answer, by the words of the chapter.
func wanted(l []string, root string, v api.Ver) string {
	out, most := "", 0
	for _, p := range l {
		r, n := path.Major(p)
		fits := v.A == n || n == 0 && v.A == 1
		if !fits || !path.Within(root, r) {
			continue
		}
		if len(r) > most || len(r) == most && p < out {
			out, most = p, len(r)
		}
	}
	return out
}

// P402: of any list of some paths.
func TestFindOfAllLists(t *testing.T) {
	all := []string{"a", "a/b", "a/b/v2", "a/v1", "a/v2", "a/v2/v2", "a/v2/v3", "a/v3", "ab", "v2/v2"}
	roots := append([]string{"a/v2/b", "a/b/c", "ab/v2", "v2", "c"}, all...)
	for set := range 1 << len(all) {
		var l []string
		for i, p := range all {
			if set>>i&1 == 1 {
				l = append(l, p)
			}
		}
		for _, root := range roots {
			for a := range 5 {
				v := api.Ver{A: a}
				want := wanted(l, root, v)
				for _, list := range [][]string{l, backwards(l)} {
					if got, is := path.Find(list, root, v); got != want || is != (want != "") {
						t.Fatalf("Find(%q, %q, A %d): %q, %v, want %q", list, root, a, got, is, want)
					}
				}
			}
		}
	}
}

// P2: Find leaves its list, and the room behind it, as they were, and does not look at that room.
func TestFindChangesNothing(t *testing.T) {
	room := []string{"b/v2", "a/v2", "a", "a/b/v2", "a/b/c/v2", "c"}
	was := slices.Clone(room)
	for _, root := range []string{"a", "a/b/c", "b", "z"} {
		for a := range 4 {
			path.Find(room[:3], root, api.Ver{A: a})
		}
	}
	if got, is := path.Find(room[:3], "a/b/c", api.Ver{A: 2}); got != "a/v2" || !is {
		t.Errorf("Find: %q, %v", got, is)
	}
	if !slices.Equal(room, was) {
		t.Errorf("Find changed its list: %q", room)
	}
}
