package extent

import (
	"bytes"
	"math/rand"
	"slices"
	"testing"

	"undercroft/api"
)

// samples: right lists, some of which are as long as may be.
func samples(seed int64) [][]api.Extent {
	r := rand.New(rand.NewSource(seed))
	var lists [][]api.Extent
	for _, n := range lengths() {
		lists = append(lists, spaced(n))
	}
	for range 400 {
		lists = append(lists, anyList(r, anyLength(r)))
	}
	for range 100 {
		lists = append(lists, long(r))
	}
	return lists
}

// anyLength: how long a list is at most; often just about what nodes hold.
func anyLength(r *rand.Rand) int {
	if r.Intn(2) == 0 {
		return r.Intn(61)
	}
	return lengths()[r.Intn(len(lengths()))]
}

// long: a right list of 58 to 60 extents.
func long(r *rand.Rand) []api.Extent {
	for {
		l := grown(r, 90, 3, 1)
		if n := min(len(l), 60); n >= 58 {
			return l[:58+r.Intn(n-57)]
		}
	}
}

// within: whether block at of the file is one of those from from to to - 1.
func within(at, from, to int) bool { return from <= at && at < to }

// P10.2: block by block, by what Find tells.

// wantRight: the list that a call answered is right.
func wantRight(t *testing.T, what string, l []api.Extent) {
	t.Helper()
	if Check(l) != api.OK || !plainRight(l) {
		t.Fatalf("%s: %v isn't right", what, l)
	}
}

func TestPutAddsJustThose(t *testing.T) {
	r := rand.New(rand.NewSource(101))
	done := 0
	for _, l := range samples(1) {
		for range 20 {
			e := anyExtent(r)
			if r.Intn(2) == 0 {
				e = beside(r, l)
			}
			got, err := Put(l, e)
			if err != api.OK {
				continue
			}
			done++
			wantRight(t, "Put", got)
			for at := range 256 {
				block, written, is := Find(got, at)
				old, wasWritten, was := Find(l, at)
				if within(at, e.At, e.At+e.Len) {
					old, wasWritten, was = e.Start+at-e.At, !e.Unwritten, true
					if _, _, there := Find(l, at); there {
						t.Fatalf("Put(%v, %v): block %d was there", l, e, at)
					}
				}
				if block != old || written != wasWritten || is != was {
					t.Fatalf("Put(%v, %v): block %d: %d, %v, %v, want %d, %v, %v", l, e, at, block, written, is, old, wasWritten, was)
				}
			}
		}
	}
	if done < 1000 {
		t.Errorf("only %d were put", done)
	}
}

func TestCutTakesJustThose(t *testing.T) {
	r := rand.New(rand.NewSource(102))
	for _, l := range samples(2) {
		for range 8 {
			from, to := anyBounds(r)
			got, gone, err := Cut(l, from, to)
			if err != api.OK {
				continue
			}
			wantRight(t, "Cut", got)
			var lost, told []int // the device's blocks
			for at := range 256 {
				block, written, is := Find(got, at)
				old, wasWritten, was := Find(l, at)
				if was && within(at, from, to) {
					lost = append(lost, old)
					old, wasWritten, was = 0, false, false
				}
				if block != old || written != wasWritten || is != was {
					t.Fatalf("Cut(%v, %d, %d): block %d: %d, %v, %v, want %d, %v, %v", l, from, to, at, block, written, is, old, wasWritten, was)
				}
			}
			for _, s := range gone {
				for i := range s.Len {
					told = append(told, s.Start+i)
				}
			}
			if !slices.Equal(lost, told) {
				t.Fatalf("Cut(%v, %d, %d): the blocks of %v, want %v", l, from, to, gone, lost)
			}
		}
	}
}

// One span for each extent that lost some, none longer and none empty.
func TestCutTellsASpanForEachExtent(t *testing.T) {
	r := rand.New(rand.NewSource(103))
	for _, l := range samples(3) {
		for range 20 {
			from, to := anyBounds(r)
			_, gone, err := Cut(l, from, to)
			if err != api.OK {
				continue
			}
			k := 0
			for _, e := range l {
				many := min(to, e.At+e.Len) - max(from, e.At)
				if many <= 0 {
					continue
				}
				if want := (api.Span{Start: e.Start + max(from-e.At, 0), Len: many}); k >= len(gone) || gone[k] != want {
					t.Fatalf("Cut(%v, %d, %d): spans %v, want %v as number %d", l, from, to, gone, want, k)
				}
				k++
			}
			if k != len(gone) {
				t.Fatalf("Cut(%v, %d, %d): spans %v, want %d", l, from, to, gone, k)
			}
		}
	}
}

func TestMarkTurnsJustThose(t *testing.T) {
	r := rand.New(rand.NewSource(104))
	for _, l := range samples(4) {
		for range 8 {
			from, to := anyBounds(r)
			got, err := Mark(l, from, to)
			if err != api.OK {
				continue
			}
			wantRight(t, "Mark", got)
			for at := range 256 {
				block, written, is := Find(got, at)
				old, wasWritten, was := Find(l, at)
				if block != old || is != was || written != (was && (wasWritten || within(at, from, to))) {
					t.Fatalf("Mark(%v, %d, %d): block %d: %d, %v, %v, but was %d, %v, %v", l, from, to, at, block, written, is, old, wasWritten, was)
				}
			}
		}
	}
}

// What is refused for want of room is refused only so: the list would be too long.
func TestRoomIsAllThatLacks(t *testing.T) {
	r := rand.New(rand.NewSource(105))
	lacks := map[string]int{}
	for range 3000 {
		l := long(r)
		at := r.Intn(256)
		if _, _, err := Cut(l, at, at+1); err == api.ErrSpace {
			lacks["Cut"]++
		}
		if _, err := Mark(l, at, at+1); err == api.ErrSpace {
			lacks["Mark"]++
		}
		if _, err := Put(l, anyExtent(r)); err == api.ErrSpace {
			lacks["Put"]++
		}
		wantCut(t, l, at, at+1)
		wantMark(t, l, at, at+1)
		wantPut(t, l, anyExtent(r))
	}
	if lacks["Cut"] == 0 || lacks["Mark"] == 0 || lacks["Put"] == 0 {
		t.Errorf("the lists aren't long enough to try it: %v", lacks)
	}
}

// What is cut out of a list and put back, extent by extent, makes the list that was.
func TestCutAndPutBack(t *testing.T) {
	r := rand.New(rand.NewSource(106))
	for _, was := range samples(5) {
		from, to := anyBounds(r)
		l, gone, err := Cut(was, from, to)
		if err != api.OK {
			continue
		}
		for _, e := range was {
			first, behind := max(e.At, from), min(e.At+e.Len, to)
			if first >= behind {
				continue
			}
			back := api.Extent{At: first, Start: gone[0].Start, Len: gone[0].Len, Unwritten: e.Unwritten}
			gone = gone[1:]
			if l, err = Put(l, back); err != api.OK {
				t.Fatalf("Put(%v): %d", back, err)
			}
		}
		wantList(t, "put back", l, err, was...)
	}
}

// P10.1 and P10.2: any calls, one behind the other, held against the document's words.

func TestAnyCalls(t *testing.T) {
	r := rand.New(rand.NewSource(107))
	for range 300 {
		l := anyList(r, anyLength(r))
		for range 40 {
			from, to := anyBounds(r)
			var next []api.Extent
			var err api.Errno
			switch r.Intn(4) {
			case 0:
				e := anyExtent(r)
				wantPut(t, l, e)
				next, err = Put(l, e)
			case 1:
				e := beside(r, l)
				wantPut(t, l, e)
				next, err = Put(l, e)
			case 2:
				wantCut(t, l, from, to)
				next, _, err = Cut(l, from, min(to, from+5))
			case 3:
				wantMark(t, l, from, to)
				next, err = Mark(l, from, min(to, from+5))
			}
			wantAll(t, l)
			wantFind(t, l, from)
			wantStore(t, l, blocksFor(r.Intn(5)))
			if err == api.OK {
				l = next
			}
		}
	}
}

// Lists in which something small is another are mostly not right: all calls answer so.
func TestBrokenLists(t *testing.T) {
	r := rand.New(rand.NewSource(108))
	wrong := 0
	for _, was := range append(samples(6), samples(7)...) {
		l := was
		for range 1 + r.Intn(2) {
			l = broken(r, l)
		}
		if !plainRight(l) {
			wrong++
		}
		from, to := anyBounds(r)
		wantAll(t, l)
		wantFind(t, l, from)
		wantPut(t, l, anyExtent(r))
		wantPut(t, l, beside(r, l))
		wantCut(t, l, from, to)
		wantMark(t, l, from, to)
		wantStore(t, l, blocksFor(needed(len(l))))
		if len(l) <= 4 {
			wantRoot(t, plainHolding(l, 60))
		}
		wantJoin(t, plainNodes(l))
	}
	if wrong < 300 {
		t.Errorf("only %d lists aren't right", wrong)
	}
}

func TestAnyListsAtAll(t *testing.T) {
	r := rand.New(rand.NewSource(109))
	for range 20000 {
		l := make([]api.Extent, r.Intn(1+r.Intn(70)))
		for k := range l {
			l[k] = anyExtent(r)
			if r.Intn(3) == 0 {
				l[k] = api.Extent{At: anyNumber(r), Start: anyNumber(r), Len: anyNumber(r), Unwritten: r.Intn(2) == 0}
			}
		}
		blocks := make([]int, r.Intn(5))
		for k := range blocks {
			blocks[k] = anyNumber(r)
		}
		at := anyNumber(r)
		wantAll(t, l)
		wantFind(t, l, at)
		wantPut(t, l, api.Extent{At: anyNumber(r), Start: anyNumber(r), Len: anyNumber(r)})
		wantCut(t, l, at, anyNumber(r))
		wantMark(t, l, at, anyNumber(r))
		wantStore(t, l, blocks)
	}
}

// P10.3: what Store tells is read again.

func TestStoredIsReadAgain(t *testing.T) {
	r := rand.New(rand.NewSource(110))
	for _, l := range append(samples(8), samples(9)...) {
		blocks := r.Perm(1023)[:needed(len(l))]
		for k := range blocks {
			blocks[k]++
		}
		root, nodes, err := Store(l, blocks)
		if err != api.OK || len(nodes) != len(blocks) {
			t.Fatalf("Store(%v, %v): %d nodes, error %d", l, blocks, len(nodes), err)
		}
		wantStore(t, l, blocks)
		for k, b := range nodes {
			many := int(b[0])
			if len(b) != api.Block || many < 1 || many > api.MaxExtent || k < len(nodes)-1 && many != api.MaxExtent {
				t.Fatalf("Store(%v): node %d: %x", l, k, b)
			}
		}
		got, in, err := Root(root)
		if err != api.OK || !slices.Equal(in, blocks) {
			t.Fatalf("Root(%x): blocks %v, error %d, want %v", root, in, err, blocks)
		}
		if len(blocks) > 0 {
			if len(got) != 0 {
				t.Fatalf("Root(%x): %v beside blocks", root, got)
			}
			got, err = Join(nodes)
		}
		wantList(t, "read again", got, err, l...)
	}
}

// Bytes that aren't what was stored are read as the document says: mostly not.
func TestOtherBytes(t *testing.T) {
	r := rand.New(rand.NewSource(111))
	turn := func(b []byte) {
		for range 1 + r.Intn(2) {
			b[r.Intn(len(b))] ^= 1 << r.Intn(8)
		}
	}
	for _, l := range samples(10) {
		root, nodes := stored(t, l)
		for range 20 {
			b := slices.Clone(root)
			turn(b)
			wantRoot(t, b)
			if len(nodes) == 0 {
				continue
			}
			like := slices.Clone(nodes)
			k := r.Intn(len(like))
			b = slices.Clone(like[k])
			turn(b[:6+12*int(b[0])%240])
			like[k] = b
			wantJoin(t, like)
			like[k] = sealed(b)
			wantJoin(t, like)
			r.Shuffle(len(like), func(i, j int) { like[i], like[j] = like[j], like[i] })
			wantJoin(t, like)
			wantJoin(t, like[:r.Intn(len(like)+1)])
		}
	}
}

func TestAnyBytesAtAll(t *testing.T) {
	r := rand.New(rand.NewSource(112))
	sizes := []int{0, 1, 4, 59, 60, 60, 60, 61, 255, 256, 256, 256, 256, 257}
	for range 20000 {
		nodes := make([][]byte, r.Intn(5))
		for k := range nodes {
			nodes[k] = make([]byte, sizes[r.Intn(len(sizes))])
			r.Read(nodes[k])
			if n := len(nodes[k]); n >= 4 && r.Intn(2) == 0 {
				copy(nodes[k], []byte{byte(r.Intn(22)), 0, 0, 0})
				nodes[k] = sealed(nodes[k])
			}
		}
		wantJoin(t, nodes)
		for _, b := range nodes {
			wantRoot(t, b)
			if len(b) >= 4 {
				copy(b, []byte{byte(r.Intn(6)), 0, byte(r.Intn(3)), 0})
				clear(b[min(len(b), 4+4*r.Intn(5)):])
				wantRoot(t, b)
			}
		}
	}
}

// P10.4 and P1: what is handed in is not changed, and an answer is new memory.

// spare: l in the midst of more, which stands ahead of it and in its spare room.
func spare[T any](l []T, more T) (whole, part []T) {
	for range 5 {
		whole = append(whole, more)
	}
	whole = append(whole, l...)
	for range 25 {
		whole = append(whole, more)
	}
	return whole, whole[5 : 5+len(l)]
}

// scribble: makes all of l another, its spare room too.
func scribble[T any](l []T, other T) {
	l = l[:cap(l)]
	for k := range l {
		l[k] = other
	}
}

// ink is what stands round lists, or is written over them.
func ink() api.Extent { return api.Extent{At: 77, Start: -7, Len: 9, Unwritten: true} }

func TestNothingHandedInIsChanged(t *testing.T) {
	r := rand.New(rand.NewSource(113))
	for _, was := range append(samples(11), broken(r, spaced(9)), broken(r, spaced(60)), spaced(61)) {
		whole, l := spare(was, ink())
		all, blocks := spare(blocksFor(needed(len(was)%61)), 5)
		wholeWas, allWas := slices.Clone(whole), slices.Clone(all)
		for range 5 {
			from, to := anyBounds(r)
			Check(l)
			Find(l, from)
			Put(l, anyExtent(r))
			Put(l, beside(r, l))
			Put(l[:len(l)/2], ink())
			Put(l[:len(l)/2], written(200, 1, 1))
			Cut(l, from, to)
			Cut(l, from, from)
			Mark(l, from, to)
			Mark(l, 0, 256)
			Need(l)
			Store(l, blocks)
			if !slices.Equal(whole, wholeWas) || !slices.Equal(all, allWas) {
				t.Fatalf("a call with %v, %v changes it, or its room, or what is ahead of it", was, blocks)
			}
		}
	}
}

func TestNoBytesHandedInAreChanged(t *testing.T) {
	for _, l := range samples(12) {
		root, nodes := stored(t, l)
		whole, body := spare(root, 0x5a)
		wholeWas := slices.Clone(whole)
		Root(body)
		Root(body[:59])
		if !bytes.Equal(whole, wholeWas) {
			t.Fatalf("Root(%x) changes it, or its room, or what is ahead of it", root)
		}
		var wholes, parts, wholesWas [][]byte
		for _, b := range nodes {
			whole, part := spare(b, 0x5a)
			wholes, parts = append(wholes, whole), append(parts, part)
			wholesWas = append(wholesWas, slices.Clone(whole))
		}
		_, given := spare(parts, []byte("more"))
		Join(given)
		Join(given[:len(given)/2])
		if !sameNodes(wholes, wholesWas) || !sameNodes(given, parts) || !sameNodes(given[len(given):][:1], [][]byte{[]byte("more")}) {
			t.Fatalf("Join(%x) changes it, or its room, or what is ahead of it", nodes)
		}
	}
}

// answers: of a list all answers that hold memory.
type answers struct {
	put, left, marked, direct, joined []api.Extent
	gone                              []api.Span
	root                              []byte
	nodes                             [][]byte
	blocks                            []int
}

// ask: all answers about a list.
func ask(l []api.Extent, e api.Extent, from, to int) answers {
	var a answers
	a.put, _ = Put(l, e)
	a.left, a.gone, _ = Cut(l, from, to)
	a.marked, _ = Mark(l, from, to)
	a.root, a.nodes, _ = Store(l, blocksFor(max(Need(l), 0)))
	a.direct, a.blocks, _ = Root(a.root)
	a.joined, _ = Join(a.nodes)
	return a
}

func (a answers) same(b answers) bool {
	return slices.Equal(a.put, b.put) && slices.Equal(a.left, b.left) && slices.Equal(a.marked, b.marked) &&
		slices.Equal(a.direct, b.direct) && slices.Equal(a.joined, b.joined) && slices.Equal(a.gone, b.gone) &&
		bytes.Equal(a.root, b.root) && sameNodes(a.nodes, b.nodes) && slices.Equal(a.blocks, b.blocks)
}

// scribbles: for each answer what makes it another, and then puts in its place what was wanted, so that all are as wanted if it shares memory with no other one.
func (a *answers) scribbles(want answers) []func() {
	fs := []func(){
		func() { scribble(a.put, ink()); a.put = want.put },
		func() { scribble(a.left, ink()); a.left = want.left },
		func() { scribble(a.marked, ink()); a.marked = want.marked },
		func() { scribble(a.direct, ink()); a.direct = want.direct },
		func() { scribble(a.joined, ink()); a.joined = want.joined },
		func() { scribble(a.gone, api.Span{Start: -5, Len: -6}); a.gone = want.gone },
		func() { scribble(a.root, 0x99); a.root = want.root },
		func() { scribble(a.blocks, -9); a.blocks = want.blocks },
	}
	for k := range a.nodes {
		fs = append(fs, func() { scribble(a.nodes[k], 0x99); a.nodes[k] = want.nodes[k] })
	}
	return fs
}

// An answer that is changed behind the call, also in its spare room, changes neither what was handed in nor another answer.
func TestAnswersAreNewMemory(t *testing.T) {
	r := rand.New(rand.NewSource(114))
	for _, was := range samples(13) {
		l := slices.Clone(was)
		e := beside(r, l)
		from, to := anyBounds(r)
		if r.Intn(3) == 0 {
			from, to = 0, 0 // all is as it was
		}
		want := ask(was, e, from, to)
		one, two := ask(l, e, from, to), ask(l, e, from, to)
		for _, f := range one.scribbles(want) {
			f()
			if !slices.Equal(l, was) || !two.same(want) || !one.same(want) {
				t.Fatalf("%v, %v, %d, %d: an answer shares memory", was, e, from, to)
			}
		}
		if again := ask(l, e, from, to); !again.same(want) {
			t.Fatalf("%v, %v, %d, %d: asked again, another answer", was, e, from, to)
		}
	}
}

// A list, blocks or bytes that are changed behind the call change no answer, and what is asked then is answered of them as they are then.
func TestNothingHandedInIsKept(t *testing.T) {
	r := rand.New(rand.NewSource(115))
	for _, was := range samples(14) {
		l, blocks := slices.Clone(was), blocksFor(needed(len(was)))
		e := beside(r, l)
		from, to := anyBounds(r)
		want, got := ask(was, e, from, to), ask(l, e, from, to)
		root, nodes, _ := Store(l, blocks)
		scribble(l, ink())
		scribble(blocks, -9)
		if !got.same(want) || !bytes.Equal(root, want.root) || !sameNodes(nodes, want.nodes) {
			t.Fatalf("%v: an answer changes with the list", was)
		}
		wantAll(t, l)
		wantPut(t, l, e)
		wantCut(t, l, from, to)
		wantMark(t, l, from, to)
		direct, in, _ := Root(root)
		joined, _ := Join(nodes)
		scribble(root, 0x99)
		for _, b := range nodes {
			scribble(b, 0x99)
		}
		if !slices.Equal(direct, want.direct) || !slices.Equal(in, want.blocks) || !slices.Equal(joined, want.joined) {
			t.Fatalf("%v: an answer changes with the bytes", was)
		}
		wantRoot(t, root)
		wantJoin(t, nodes)
	}
}

// Equal arguments get equal answers, whatever spare room they have and whatever was asked between.
func TestAgain(t *testing.T) {
	r := rand.New(rand.NewSource(116))
	for _, l := range samples(15) {
		e := beside(r, l)
		from, to := anyBounds(r)
		first := ask(l, e, from, to)
		ask(spaced(60), written(3, 900, 1), 0, 256)
		if second := ask(append(make([]api.Extent, 0, 99), l...), e, from, to); !first.same(second) {
			t.Errorf("%v, %v, %d, %d: asked again, another answer", l, e, from, to)
		}
		if third := ask(slices.Clip(slices.Clone(l)), e, from, to); !first.same(third) {
			t.Errorf("%v, %v, %d, %d: asked without spare room, another answer", l, e, from, to)
		}
	}
}
