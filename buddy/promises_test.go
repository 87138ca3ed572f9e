package buddy

import (
	"bytes"
	"math/rand"
	"testing"

	"undercroft/api"
)

// samples: the shapes and any maps, each with all its blocks, and with fewer.
func samples(seed int64) []sample {
	r := rand.New(rand.NewSource(seed))
	maps := shapes()
	for range 150 {
		maps = append(maps, anyMap(r, 40))
	}
	var l []sample
	for _, m := range maps {
		l = append(l, sample{m, 8 * len(m)}, sample{m, r.Intn(8*len(m) + 1)})
	}
	return l
}

type sample struct {
	m []byte
	n int
}

// bit: whether bit i of a map is 1.
func bit(m []byte, i int) bool { return m[i/8]>>(i%8)&1 == 1 }

// inside: whether block i is one of the span's.
func inside(s api.Span, i int) bool { return i >= s.Start && i < s.Start+s.Len }

// freed: how many blocks are free, counted one by one.
func freed(p sample) int {
	many := 0
	for i := range p.n {
		if !bit(p.m, i) {
			many++
		}
	}
	return many
}

// P8.2: what is taken.

// wantTaken: the span that was taken was free, has 1 to want blocks, lies within n, and is taken in got, in which no other bit is turned.
func wantTaken(t *testing.T, p sample, want int, s api.Span, got []byte) {
	t.Helper()
	if s.Len < 1 || s.Len > want || s.Start < 0 || s.Start+s.Len > p.n || len(got) != len(p.m) {
		t.Fatalf("%x, %d: %v for %d, map %x", p.m, p.n, s, want, got)
	}
	for i := range 8 * len(p.m) {
		if inside(s, i) && bit(p.m, i) {
			t.Errorf("%x, %d: %v, but block %d wasn't free", p.m, p.n, s, i)
		}
		if bit(got, i) != (inside(s, i) || bit(p.m, i)) {
			t.Errorf("%x, %d: %v, bit %d is wrong behind it: %x", p.m, p.n, s, i, got)
		}
	}
}

func TestWhatIsTakenWasFree(t *testing.T) {
	r := rand.New(rand.NewSource(82))
	for _, p := range samples(1) {
		many := freed(p)
		for range 30 {
			want, goal := 1+r.Intn(64), r.Intn(p.n+10)
			got, s, err := Take(p.m, p.n, want, goal)
			if many > 0 != (err == api.OK) {
				t.Fatalf("Take(%x, %d, %d, %d): %d, of %d that are free", p.m, p.n, want, goal, err, many)
			}
			if err == api.OK {
				wantTaken(t, p, want, s, got)
			}
		}
	}
}

// A span begins where a chunk does that has as many blocks, and ends within that chunk.
func TestWhatIsTakenLiesInAChunk(t *testing.T) {
	r := rand.New(rand.NewSource(83))
	for _, p := range samples(2) {
		for want := 1; want <= 64; want++ {
			_, s, err := Take(p.m, p.n, want, r.Intn(p.n+10))
			if err != api.OK {
				continue
			}
			size := 1
			for size < s.Len {
				size *= 2
			}
			if s.Start%size != 0 || s.Start+size > p.n || s.Len < want && s.Len != size {
				t.Errorf("%x, %d: %v for %d", p.m, p.n, s, want)
			}
		}
	}
}

// As long as a block is free one is given: a pool is taken to its end, each block once.
func TestTakenToTheEnd(t *testing.T) {
	r := rand.New(rand.NewSource(84))
	for _, p := range samples(3) {
		begun, left := bytes.Clone(p.m), freed(p)
		for left > 0 {
			want := anyWant(r)
			if want < 1 || want > 64 {
				continue
			}
			got, s, err := Take(p.m, p.n, want, r.Intn(p.n+2))
			if err != api.OK {
				t.Fatalf("%x, %d: %d, and %d are free", p.m, p.n, err, left)
			}
			wantTaken(t, p, want, s, got)
			p.m, left = got, left-s.Len
			if many, err := Free(p.m, p.n); err != api.OK || many != left {
				t.Fatalf("%x, %d: Free: %d, %d, want %d", p.m, p.n, many, err, left)
			}
		}
		if got, s, err := Take(p.m, p.n, 1, 0); got != nil || s != (api.Span{}) || err != api.ErrSpace {
			t.Errorf("%x, %d, full: %x, %v, %d", p.m, p.n, got, s, err)
		}
		full := plainTurned(begun, api.Span{Start: 0, Len: p.n}, true)
		if !bytes.Equal(p.m, full) {
			t.Errorf("%x, %d: full, but %x", begun, p.n, p.m)
		}
	}
}

// P8.3: what is given back.

// All that was taken is given back, in any order: the map is the one that was.
func TestGivenBack(t *testing.T) {
	r := rand.New(rand.NewSource(85))
	for _, p := range samples(4) {
		m := p.m
		var spans []api.Span
		for range 1 + r.Intn(20) {
			got, s, err := Take(m, p.n, 1+r.Intn(64), r.Intn(p.n+2))
			if err != api.OK {
				break
			}
			if back, err := Give(got, p.n, s); err != api.OK || !bytes.Equal(back, m) {
				t.Fatalf("%x, %d: %v given back at once: %x, %d", m, p.n, s, back, err)
			}
			m, spans = got, append(spans, s)
		}
		r.Shuffle(len(spans), func(i, j int) { spans[i], spans[j] = spans[j], spans[i] })
		for _, s := range spans {
			back, err := Give(m, p.n, s)
			if err != api.OK {
				t.Fatalf("%x, %d: Give of %v: %d", m, p.n, s, err)
			}
			if again, err := Give(back, p.n, s); again != nil || err != api.ErrExist {
				t.Fatalf("%x, %d: Give of %v twice: %x, %d", m, p.n, s, again, err)
			}
			m = back
		}
		if !bytes.Equal(m, p.m) {
			t.Errorf("%x, %d: %x behind all being given back", p.m, p.n, m)
		}
	}
}

// Give turns the span's bits alone, and a span may be given back in parts.
func TestGiveInParts(t *testing.T) {
	r := rand.New(rand.NewSource(86))
	for _, p := range samples(5) {
		if p.n == 0 {
			continue
		}
		s := api.Span{Start: r.Intn(p.n)}
		s.Len = 1 + r.Intn(p.n-s.Start)
		m := plainTurned(p.m, s, true)
		whole, err := Give(m, p.n, s)
		if err != api.OK || !bytes.Equal(whole, plainTurned(m, s, false)) {
			t.Fatalf("%x, %d: Give of %v: %x, %d", m, p.n, s, whole, err)
		}
		for k := 1; k < s.Len; k++ {
			half, _ := Give(m, p.n, api.Span{Start: s.Start, Len: k})
			both, err := Give(half, p.n, api.Span{Start: s.Start + k, Len: s.Len - k})
			if err != api.OK || !bytes.Equal(both, whole) {
				t.Fatalf("%x, %d: Give of %v in parts of %d: %x, %d", m, p.n, s, k, both, err)
			}
		}
	}
}

// The Orders' chunks have just the free blocks together: each free block lies in one of them, which are counted by the greatest free chunk that it is in.
func TestOrdersHaveTheFreeBlocks(t *testing.T) {
	for _, p := range samples(6) {
		orders, err := Orders(p.m, p.n)
		if err != api.OK || len(orders) != 7 {
			t.Fatalf("%x, %d: %v, %d", p.m, p.n, orders, err)
		}
		blocks := make([]int, 7) // by order how many free blocks lie in no greater free chunk
		for i := range p.n {
			if order := greatestAround(p, i); order >= 0 {
				blocks[order]++
			}
		}
		many := 0
		for order, k := range orders {
			many += k << order
			if k<<order != blocks[order] {
				t.Errorf("%x, %d: Orders %v: %d blocks of order %d", p.m, p.n, orders, blocks[order], order)
			}
		}
		if free, err := Free(p.m, p.n); err != api.OK || many != freed(p) || free != many {
			t.Errorf("%x, %d: Orders %v have %d blocks, Free %d, %d", p.m, p.n, orders, many, free, err)
		}
	}
}

// greatestAround: the order of the greatest free chunk that has block i; -1: it isn't free.
func greatestAround(p sample, i int) int {
	for order := 6; order >= 0; order-- {
		start := i >> order << order
		free := start+1<<order <= p.n
		for k := start; free && k < start+1<<order; k++ {
			free = !bit(p.m, k)
		}
		if free {
			return order
		}
	}
	return -1
}

// P8.4: what is handed in is not changed, and an answer is new memory.

// withSpare: m in the midst of more bytes, which stand ahead of it and in its spare room.
func withSpare(m []byte) (all, part []byte) {
	all = bytes.Repeat([]byte{0x5a}, len(m)+32)
	copy(all[8:], m)
	return all, all[8 : 8+len(m)]
}

// answers: what each call once answers.
type answers struct {
	taken, given []byte
	span         api.Span
	orders       []int
	free         int
	errs         [4]api.Errno
}

func ask(m []byte, n, want, goal int, s api.Span) (a answers) {
	a.taken, a.span, a.errs[0] = Take(m, n, want, goal)
	a.given, a.errs[1] = Give(m, n, s)
	a.orders, a.errs[2] = Orders(m, n)
	a.free, a.errs[3] = Free(m, n)
	return a
}

func (a answers) same(b answers) bool {
	maps := bytes.Equal(a.taken, b.taken) && bytes.Equal(a.given, b.given)
	return maps && sameNumbers(a.orders, b.orders) && a.span == b.span && a.free == b.free && a.errs == b.errs
}

// scribble: turns all bits of l, its spare room's too.
func scribble[E byte | int](l []E) {
	l = l[:cap(l)]
	for k := range l {
		l[k] = ^l[k]
	}
}

// questions: what is asked of each sample; half of the spans are taken ones.
func questions(seed int64, asked func(m []byte, n, want, goal int, s api.Span)) {
	r := rand.New(rand.NewSource(seed))
	for _, p := range samples(seed) {
		for k := range 6 {
			m, s := p.m, api.Span{Start: r.Intn(p.n + 1), Len: 1 + r.Intn(9)}
			if k%2 == 0 && s.Start+s.Len <= p.n {
				m = plainTurned(m, s, true)
			}
			asked(m, p.n, 1+r.Intn(64), r.Intn(p.n+2), s)
		}
	}
}

func TestNothingHandedInIsChanged(t *testing.T) {
	questions(7, func(shape []byte, n, want, goal int, s api.Span) {
		all, m := withSpare(shape)
		was := bytes.Clone(all)
		ask(m, n, want, goal, s)
		if !bytes.Equal(all, was) {
			t.Fatalf("%x, %d, %d, %d, %v: changed, or its spare room, or what is ahead of it", shape, n, want, goal, s)
		}
	})
}

// An answer that is changed behind the call, also in its spare room, changes neither the map nor another answer.
func TestAnswersAreNewMemory(t *testing.T) {
	questions(8, func(shape []byte, n, want, goal int, s api.Span) {
		all, m := withSpare(shape)
		was := bytes.Clone(all)
		first, second := ask(m, n, want, goal, s), ask(m, n, want, goal, s)
		scribble(first.taken)
		scribble(first.given)
		scribble(first.orders)
		if !bytes.Equal(all, was) {
			t.Fatalf("%x, %d, %d, %d, %v: an answer shares memory with the map", shape, n, want, goal, s)
		}
		third := ask(m, n, want, goal, s)
		if !second.same(third) {
			t.Fatalf("%x, %d, %d, %d, %v: %v and %v: answers share memory", shape, n, want, goal, s, second, third)
		}
		scribble(second.taken)
		scribble(second.orders)
		if !bytes.Equal(second.given, third.given) {
			t.Fatalf("%x, %d, %d, %d, %v: two answers share memory", shape, n, want, goal, s)
		}
	})
}

// A map that is changed behind the call changes no answer, and what is asked then is answered of the map as it is then.
func TestNothingHandedInIsKept(t *testing.T) {
	questions(9, func(shape []byte, n, want, goal int, s api.Span) {
		all, m := withSpare(shape)
		got, copied := ask(m, n, want, goal, s), ask(bytes.Clone(m), n, want, goal, s)
		scribble(all)
		if !got.same(copied) {
			t.Fatalf("%x, %d, %d, %d, %v: %v has changed with the map, want %v", shape, n, want, goal, s, got, copied)
		}
		wantTake(t, m, n, want, goal)
		wantGive(t, m, n, s)
		wantAsked(t, m, n)
	})
}

// Equal maps, asked the same, answer the same, whatever spare room they have and whatever was asked between.
func TestAgain(t *testing.T) {
	questions(10, func(shape []byte, n, want, goal int, s api.Span) {
		first := ask(shape, n, want, goal, s)
		ask([]byte{0x06, 0x00}, 13, 3, 1, api.Span{Start: 1, Len: 2})
		if second := ask(append(make([]byte, 0, 99), shape...), n, want, goal, s); !first.same(second) {
			t.Errorf("%x, %d, %d, %d, %v: %v, then %v", shape, n, want, goal, s, first, second)
		}
	})
}
