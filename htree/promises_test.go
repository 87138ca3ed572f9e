package htree

import (
	"bytes"
	"math/rand"
	"slices"
	"strings"
	"testing"

	"undercroft/api"
)

// P12.2: what Add, Remove and Set tell is right, and what is found behind them is what was found ahead, but for that name alone.

// A life is a directory and what is to be found in it.
type life struct {
	d     [][]byte
	found map[string]int
}

// listed: the entries that are to be found, in order.
func (l life) listed() []api.Name {
	var all []api.Name
	for name, inode := range l.found {
		all = append(all, api.Name{Name: name, Inode: inode})
	}
	return inOrder(all)
}

// any: a name that is there, or any other one.
func (l life) any(r *rand.Rand) string {
	if all := l.listed(); len(all) > 0 && r.Intn(4) > 0 {
		return all[r.Intn(len(all))].Name
	}
	return anyName(r)
}

// add, remove and set: the call is made, and tells a directory that is right, or an error with a reason.

func (l *life) add(t *testing.T, e api.Name) {
	t.Helper()
	_, there := l.found[e.Name]
	d := wantAdd(t, "a life", l.d, e)
	switch _, err := Add(l.d, e); {
	case err == api.OK && !there:
		l.d, l.found[e.Name] = d, e.Inode
	case err == api.ErrSpace && !there || err == api.ErrExist && there:
	default:
		t.Errorf("Add(%x, %#v): error %d; it is there: %v", l.d, e, err, there)
	}
}

func (l *life) remove(t *testing.T, name string) {
	t.Helper()
	_, there := l.found[name]
	d := wantRemove(t, "a life", l.d, name)
	if !there {
		wantNothing(t, "Remove of what isn't there", d, errorOf(Remove(l.d, name)), api.ErrNone)
		return
	}
	l.d = d
	delete(l.found, name)
}

func (l *life) set(t *testing.T, e api.Name) {
	t.Helper()
	_, there := l.found[e.Name]
	d := wantSet(t, "a life", l.d, e)
	if !there {
		wantNothing(t, "Set of what isn't there", d, errorOf(Set(l.d, e)), api.ErrNone)
		return
	}
	l.d, l.found[e.Name] = d, e.Inode
}

// errorOf: the error of an answer.
func errorOf(_ [][]byte, err api.Errno) api.Errno { return err }

// wantFound: the directory is right, and what is to be found in it is found, and nothing else.
func (l *life) wantFound(t *testing.T, r *rand.Rand) {
	t.Helper()
	wantRight(t, "a life", l.d)
	all := l.listed()
	if got, err := After(l.d, "", len(all)+9); err != api.OK || !slices.Equal(got, all) {
		t.Fatalf("After(%x): %#v, error %d, want %#v", l.d, got, err, all)
	}
	for k, e := range all {
		if len(all) > 50 && k%17 != r.Intn(17) {
			continue
		}
		if inode, err := Find(l.d, e.Name); inode != e.Inode || err != api.OK {
			t.Fatalf("Find(%x, %q): %d, error %d, want %d", l.d, e.Name, inode, err, e.Inode)
		}
	}
	name := anyName(r)
	if _, there := l.found[name]; !there {
		if inode, err := Find(l.d, name); inode != 0 || err != api.ErrNone {
			t.Fatalf("Find(%x, %q): %d, error %d, want error %d", l.d, name, inode, err, api.ErrNone)
		}
	}
}

// step: some call.
func (l *life) step(t *testing.T, r *rand.Rand, adds int) {
	t.Helper()
	switch e := anyEntry(r); r.Intn(adds + 4) {
	case 0, 1:
		l.remove(t, l.any(r))
	case 2:
		l.set(t, api.Name{Name: l.any(r), Inode: e.Inode})
	case 3:
		l.add(t, api.Name{Name: l.any(r), Inode: e.Inode})
	default:
		l.add(t, e)
	}
}

func TestLives(t *testing.T) {
	r := rand.New(rand.NewSource(130))
	for range 120 {
		l := life{New(), map[string]int{}}
		for range 60 {
			l.step(t, r, 1+r.Intn(8))
			l.wantFound(t, r)
		}
	}
}

// Up to 30 leaves, in which some time nothing more fits, and down again to none.
func TestLivesUpAndDown(t *testing.T) {
	r := rand.New(rand.NewSource(131))
	for _, length := range []int{0, 6, 12, 32} { // of the names; 0: any
		l := life{New(), map[string]int{}}
		refused := 0
		for k := 0; refused < 20; k++ {
			e := anyEntry(r)
			if length > 0 {
				e.Name = summed(r.Uint32(), length, r.Intn(36))
			}
			were := len(l.found)
			l.add(t, e)
			if len(l.found) == were {
				refused++
			}
			if k%20 == 0 {
				l.wantFound(t, r)
			}
		}
		if length > 0 && len(l.d) != 31 {
			t.Errorf("names of %d bytes: %d blocks", length, len(l.d))
		}
		l.wantFound(t, r)
		blocks := len(l.d)
		for k := 0; len(l.found) > 0; k++ {
			all := l.listed()
			l.remove(t, all[r.Intn(len(all))].Name)
			if k%20 == 0 || len(all) < 5 {
				l.wantFound(t, r)
			}
		}
		if len(l.d) != blocks {
			t.Errorf("%d blocks, and %d when all names are gone", blocks, len(l.d))
		}
		l.wantFound(t, r)
		for range 30 { // and it goes on being one
			l.add(t, anyEntry(r))
			l.wantFound(t, r)
		}
	}
}

// What is added is found, what is removed isn't, and what is removed and added again is found where it belongs.
func TestAddAndRemoveAgain(t *testing.T) {
	for _, d := range few() {
		for _, e := range spread(plainAll(d)) {
			less := wantRemove(t, "there", d, e.Name)
			wantFind(t, "gone", less, e.Name)
			more := wantAdd(t, "again", less, e)
			if !same(more, d) {
				t.Errorf("%q being gone and added again %x is %x", e.Name, d, more)
			}
			back := wantSet(t, "back", wantSet(t, "another", d, api.Name{Name: e.Name, Inode: 1 << 20}), e)
			if !same(back, d) {
				t.Errorf("%q being set and set again %x is %x", e.Name, d, back)
			}
		}
	}
}

// spread: some of these entries, from the first one to the last.
func spread(l []api.Name) []api.Name {
	var some []api.Name
	for k, e := range l {
		if k < 6 || k > len(l)-4 || k%11 == 0 {
			some = append(some, e)
		}
	}
	return some
}

// P12.3: After tells each entry once, in order.

func TestAfterGoingOn(t *testing.T) {
	r := rand.New(rand.NewSource(132))
	for _, d := range append(few(), grown(t, r, 300), grown(t, r, 60)) {
		all := plainAll(d)
		for _, n := range []int{1, 2, 3, 7, 40, len(all), len(all) + 1} {
			var told []api.Name
			from := ""
			for {
				l, err := After(d, from, n)
				if err != api.OK || len(l) > n || len(l) < min(n, len(all)-len(told)) {
					t.Fatalf("After(%x, %q, %d): %#v, error %d", d, from, n, l, err)
				}
				if len(l) == 0 {
					break
				}
				told = append(told, l...)
				from = l[len(l)-1].Name
			}
			if !slices.Equal(told, all) {
				t.Errorf("After of %x, %d at a time: %#v, want %#v", d, n, told, all)
			}
		}
	}
}

// grown: a directory to which so many entries were added.
func grown(t *testing.T, r *rand.Rand, many int) [][]byte {
	t.Helper()
	d := New()
	for many > 0 {
		if more, err := Add(d, api.Name{Name: anyName(r), Inode: r.Intn(99)}); err == api.OK {
			d = more
			many--
		}
	}
	return d
}

// Entries that are added or removed meanwhile take none of the others away, and make none of them be told twice.
func TestAfterWhileEntriesComeAndGo(t *testing.T) {
	r := rand.New(rand.NewSource(133))
	for round := range 150 {
		l := life{New(), map[string]int{}}
		for range r.Intn(120) {
			l.add(t, anyEntry(r))
		}
		stayed := map[string]int{} // those that were there from the beginning on
		for name := range l.found {
			stayed[name]++
		}
		var told []string
		from := ""
		for {
			got := wantAfter(t, "meanwhile", l.d, from, 1+r.Intn(1+round%9))
			if len(got) == 0 {
				break
			}
			for _, e := range got {
				if inode, there := l.found[e.Name]; !there || inode != e.Inode {
					t.Fatalf("After tells %#v, which isn't there", e)
				}
				if len(told) > 0 && !ahead(told[len(told)-1], e.Name) {
					t.Fatalf("After tells %q behind %q", e.Name, told[len(told)-1])
				}
				told = append(told, e.Name)
			}
			from = told[len(told)-1]
			for range r.Intn(6) {
				l.step(t, r, 2)
			}
			if r.Intn(4) == 0 { // the one to go on from may go itself
				if _, there := l.found[from]; there {
					l.remove(t, from)
				}
			}
			for name := range stayed {
				if _, there := l.found[name]; !there && !slices.Contains(told, name) {
					delete(stayed, name)
				}
			}
		}
		for name := range stayed {
			if !slices.Contains(told, name) {
				t.Fatalf("%q was there all the time, and isn't told", name)
			}
		}
	}
}

// A leaf that is split between two calls, and one whose entries all go.
func TestAfterAcrossASplit(t *testing.T) {
	d := [][]byte{block(entries(32, 10, 20, 30, 40, 50, 60))}
	all := plainAll(d)
	for k := range 6 {
		for _, sum := range []uint32{0, 15, 35, 55, 65} {
			first := wantAfter(t, "ahead of the split", d, "", k)
			from := ""
			if k > 0 {
				from = first[k-1].Name
			}
			e := api.Name{Name: summed(sum, 32, 20), Inode: 9}
			split := wantAdd(t, "a split", d, e)
			rest := wantAfter(t, "behind the split", split, from, 99)
			told := append(slices.Clone(first), rest...)
			if at := plainPlace(told, e.Name); at >= 0 {
				told = slices.Delete(told, at, at+1)
			}
			if len(split) != 3 || !slices.Equal(told, all) {
				t.Errorf("%d ahead of a split, the others behind it: %#v", k, told)
			}
			for _, gone := range all[k:] {
				split = wantRemove(t, "gone", split, gone.Name)
			}
			if rest := wantAfter(t, "gone", split, from, 99); len(rest) > 1 || len(rest) == 1 && rest[0] != e {
				t.Errorf("all behind %q are gone, and After tells %#v", from, rest)
			}
		}
	}
}

// P12.4 and P1: what is handed in is not changed, and an answer is new memory.

// withSpare: a directory like d, whose list and blocks have spare room that isn't empty, all blocks lying one behind the other in one memory.
func withSpare(d [][]byte) (memory []byte, like [][]byte) {
	memory = bytes.Repeat([]byte{0x5a}, 300*len(d)+300)
	like = make([][]byte, 0, len(d)+5)
	for k, b := range d {
		at := 300*k + 7
		copy(memory[at:], b)
		like = append(like, memory[at:at+len(b)])
	}
	for k := range 5 {
		like = append(like, []byte{byte(k)})
	}
	return memory, like[:len(d)]
}

// calls: each call that tells a directory, on d.
func calls(d [][]byte, e api.Name) [][][]byte {
	added, _ := Add(d, e)
	removed, _ := Remove(d, e.Name)
	set, _ := Set(d, e)
	return [][][]byte{added, removed, set}
}

func TestNothingHandedInIsChanged(t *testing.T) {
	r := rand.New(rand.NewSource(134))
	for _, d := range append(few(), grown(t, r, 200), [][]byte{New()[0], {}, nil}) {
		memory, like := withSpare(d)
		was, list := bytes.Clone(memory), slices.Clone(like[:cap(like)])
		for range 300 {
			e := anyEntry(r)
			if all := plainAll(d); len(all) > 0 && r.Intn(2) == 0 {
				e.Name = all[r.Intn(len(all))].Name
			}
			Check(like)
			Find(like, e.Name)
			After(like, e.Name, r.Intn(50))
			calls(like, e)
			if !bytes.Equal(memory, was) {
				t.Fatalf("a call by %#v changes a block, or what lies beside it", e)
			}
			for k, b := range like[:cap(like)] {
				if !bytes.Equal(b, list[k]) || len(b) > 0 && &b[0] != &list[k][0] {
					t.Fatalf("a call by %#v changes the list, or its room", e)
				}
			}
		}
	}
}

// scribble: turns all bits of a directory's blocks, their spare room's too, and puts other blocks into the list's.
func scribble(d [][]byte) {
	for _, b := range d[:cap(d)] {
		b = b[:cap(b)]
		for k := range b {
			b[k] = ^b[k]
		}
	}
	d = d[:cap(d)]
	for k := range d {
		d[k] = []byte{1}
	}
}

// An answer that is changed behind the call changes neither what was handed in nor another answer.
func TestAnswersAreNewMemory(t *testing.T) {
	r := rand.New(rand.NewSource(135))
	for _, d := range append(few(), grown(t, r, 200)) {
		was := cloned(d)
		for _, e := range append(spread(plainAll(d)), anyEntry(r), anyEntry(r), api.Name{Name: summed(0, 32, 9), Inode: 3}) {
			first, second := calls(d, e), calls(d, e)
			for k := range first {
				want := cloned(second[k])
				scribble(first[k])
				if !same(d, was) {
					t.Fatalf("%#v: an answer shares memory with what was handed in", e)
				}
				for other := range second {
					if other > k && !same(first[other], second[other]) {
						t.Fatalf("%#v: two answers share memory", e)
					}
				}
				if !same(second[k], want) {
					t.Fatalf("%#v: an answer shares memory with the one of the same call", e)
				}
			}
		}
		l, again := wantAfter(t, "new memory", d, "", 99), wantAfter(t, "new memory", d, "", 99)
		l = l[:cap(l)]
		for k := range l {
			l[k] = api.Name{Name: "scrawled", Inode: -7}
		}
		if want, _ := plainAfter(d, "", 99); !slices.Equal(again, want) || !same(d, was) {
			t.Fatal("an answer of After shares memory")
		}
	}
	first, second := New(), New()
	scribble(first)
	if wantRight(t, "New", second); !same(second, New()) {
		t.Fatal("an answer of New shares memory")
	}
}

// The blocks of one answer share no memory, also where those that were handed in do.
func TestBlocksOfAnAnswer(t *testing.T) {
	empty := New()[0]
	shared := [][]byte{indexBlock(line{0, 1}, line{1 << 30, 3}, line{1 << 31, 2}), empty, empty, empty}
	wantRight(t, "one block three times", shared)
	shared = added(t, shared, api.Name{Name: summed(9, 8, 0), Inode: 1})
	if !same(shared[2:], [][]byte{empty, empty}) || bytes.Equal(shared[1], empty) {
		t.Errorf("Add to one of three leaves that are one block: %x", shared)
	}
	r := rand.New(rand.NewSource(136))
	for _, d := range append(few(), shared, [][]byte{shared[0], empty, empty, empty}, grown(t, r, 200)) {
		for _, e := range append(spread(plainAll(d)), anyEntry(r), api.Name{Name: summed(0, 32, 9), Inode: 3}) {
			for _, answer := range calls(d, e) {
				was := cloned(answer)
				for k := range answer {
					scribble([][]byte{answer[k]})
					if !same(answer[k+1:], was[k+1:]) {
						t.Fatalf("%#v: block %d of an answer shares memory with one behind it", e, k)
					}
				}
			}
		}
	}
}

// A directory that is changed behind the call changes no answer, and what is asked then is answered of it as it is then.
func TestNothingHandedInIsKept(t *testing.T) {
	r := rand.New(rand.NewSource(137))
	for _, d := range append(few(), grown(t, r, 100)) {
		for _, e := range append(spread(plainAll(d)), anyEntry(r)) {
			handed := cloned(d)
			answers := calls(handed, e)
			l, err := After(handed, "", 99)
			scribble(handed)
			for k, want := range calls(d, e) {
				if !same(answers[k], want) {
					t.Fatalf("%#v: an answer changes with what was handed in", e)
				}
			}
			if want, wanted := After(d, "", 99); err != wanted || !slices.Equal(l, want) {
				t.Fatal("an answer of After changes with what was handed in")
			}
			if Check(handed) != api.ErrClean {
				t.Fatal("Check of blocks that were changed: no error")
			}
		}
	}
}

// Equal arguments get equal answers, whatever spare room they have and whatever was asked between.
func TestAgain(t *testing.T) {
	r := rand.New(rand.NewSource(138))
	for _, d := range append(few(), grown(t, r, 100)) {
		for range 20 {
			e := anyEntry(r)
			first := calls(d, e)
			calls(even(3), anyEntry(r))
			Check(nil)
			_, like := withSpare(d)
			for k, again := range calls(like, api.Name{Name: strings.Clone(e.Name), Inode: e.Inode}) {
				if !same(first[k], again) {
					t.Errorf("%#v: %x, then %x", e, first[k], again)
				}
			}
			wantCalls(t, "with spare room", like, e, 5)
		}
	}
}
