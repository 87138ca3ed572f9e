package path

import (
	"math/rand"
	"slices"
	"strings"
	"testing"

	"undercroft/api"
)

// P14.2: what Join tells has just these parts, and ends with none that has to be a directory but "..".
func TestWhatIsJoinedIsSplit(t *testing.T) {
	for _, l := range joinable(144, 20000) {
		p, err := Join(l)
		if err != api.OK {
			t.Fatalf("Join(%q): error %d", l, err)
		}
		wantParts(t, p, len(l) == 0 || l[len(l)-1] == "..", l...)
	}
}

// P14.2: Split of a path that is Joined again out of its parts tells the same parts.
func TestWhatIsSplitIsJoined(t *testing.T) {
	r := rand.New(rand.NewSource(145))
	paths := []string{"/", "///", "/././", "/../..", strings.Repeat("/", 256), strings.Repeat("/a", 128), strings.Repeat("/"+long32, 7) + "/" + long31[:24]}
	for len(paths) < 20000 {
		if p := anyPath(r); len(p) > 0 {
			paths = append(paths, p, "/"+anyBytes(r, 255, "abcdef/./"))
		}
	}
	for _, p := range paths {
		parts, _, err := Split(p)
		if err != api.OK {
			continue
		}
		joined, err := Join(parts)
		if err != api.OK || len(joined) > len(p) {
			t.Fatalf("Split(%q): %q, which Join to %q, error %d", p, parts, joined, err)
		}
		again, _, err := Split(joined)
		if err != api.OK || !slices.Equal(again, parts) {
			t.Fatalf("Split(%q): %q, but of %q: %q, error %d", p, parts, joined, again, err)
		}
	}
}

// P14.2: Plain of Plain is Plain, and has no "..".
func TestPlainOfPlain(t *testing.T) {
	r := rand.New(rand.NewSource(146))
	lists := append(listsOf(6, "a", "b", ".."), badParts(), goodParts())
	for range 30000 {
		lists = append(lists, anyList(r))
	}
	for _, l := range lists {
		plain := Plain(l)
		if slices.Contains(plain, "..") {
			t.Fatalf("Plain(%q): %q", l, plain)
		}
		wantLeft(t, plain, plain)
	}
}

// P14.3 and P1: what is handed in is not changed, and an answer is new memory.

// withRoom: l in the midst of more parts, which stand ahead of it and in its spare room.
func withRoom(l []string) (whole, part []string) {
	whole = slices.Concat([]string{"ahead", ".."}, l, []string{"behind", "..", "further behind"})
	return whole, whole[2 : 2+len(l)]
}

// scrawl: changes all parts of l, its spare room's too.
func scrawl(l []string) {
	l = l[:cap(l)]
	for k := range l {
		l[k] = "scrawled/"
	}
}

// lists: lists of all kinds, so many of them by chance.
func lists(seed int64, many int) [][]string {
	r := rand.New(rand.NewSource(seed))
	all := append(listsOf(4, "a", "b", ".."), badParts(), goodParts())
	for range many {
		all = append(all, anyList(r))
	}
	return all
}

func TestNothingHandedInIsChanged(t *testing.T) {
	for _, l := range lists(147, 5000) {
		whole, part := withRoom(l)
		were := slices.Clone(whole)
		Join(part)
		Plain(part)
		if !slices.Equal(whole, were) {
			t.Fatalf("a call with %q changes the list, or its room, or what is ahead of it", l)
		}
	}
}

// An answer that is changed behind the call, also in its spare room, changes neither what was handed in nor another answer.
func TestAnswersAreNewMemory(t *testing.T) {
	for _, l := range lists(148, 3000) {
		whole, part := withRoom(l)
		were := slices.Clone(whole)
		first, second := Plain(part), Plain(part)
		scrawl(first)
		if !slices.Equal(whole, were) || !slices.Equal(second, plainPlain(l)) {
			t.Fatalf("%q: an answer of Plain shares memory", l)
		}
		wantPlain(t, l)
	}
	r := rand.New(rand.NewSource(149))
	for range 5000 {
		p := anyPath(r)
		want, _, _ := plainSplit(p)
		first, _, _ := Split(p)
		second, _, _ := Split(p)
		scrawl(first)
		if !slices.Equal(second, want) {
			t.Fatalf("%q: answers of Split share memory", p)
		}
		wantSplit(t, p)
	}
}

// A list that is changed behind the call changes no answer, and what is asked then is answered of it as it is then.
func TestNothingHandedInIsKept(t *testing.T) {
	for _, l := range lists(150, 3000) {
		list := slices.Clone(l)
		plain := Plain(list)
		p, err := Join(list)
		scrawl(list)
		if want, wanted := plainJoin(l); p != want || err != wanted || !slices.Equal(plain, plainPlain(l)) {
			t.Fatalf("%q: an answer changes with the list", l)
		}
		wantLeft(t, list, list)
		if len(list) > 0 {
			wantUnjoined(t, api.ErrArg, list...)
		}
	}
}

// Equal arguments get equal answers, whatever spare room they have and whatever was asked between.
func TestAgain(t *testing.T) {
	r := rand.New(rand.NewSource(151))
	for _, l := range lists(152, 2000) {
		p := anyPath(r)
		Split(p)
		Join(l)
		Plain(l)
		Split("/x/y/")
		Join([]string{"x", "y"})
		Plain([]string{"x", ".."})
		Split("")
		Join([]string{""})
		roomy := append(make([]string, 0, 99), l...)
		wantSplit(t, strings.Clone(p))
		wantJoin(t, roomy)
		wantPlain(t, roomy)
	}
}

// A list of none may be nil or empty.
func TestNilIsEmpty(t *testing.T) {
	for _, l := range [][]string{nil, {}, make([]string, 0, 9), []string{"a", ".."}[:0]} {
		wantPath(t, "/", l...)
		wantLeft(t, l, nil)
	}
}
