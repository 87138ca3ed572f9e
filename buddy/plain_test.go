package buddy

import (
	"bytes"
	"math"
	"math/rand"
	"testing"

	"undercroft/api"
)

// The document's words once more, as plainly as can be, to hold the package against: a pool is a list of blocks, each of which is free or not, and every chunk of every order is asked in turn.

// plainPool: which blocks are free; false: n is no number of blocks of that map.
func plainPool(m []byte, n int) ([]bool, bool) {
	if n < 0 || n > 8*len(m) {
		return nil, false
	}
	free := make([]bool, n)
	for i := range free {
		worth := byte(1) << (i % 8)
		free[i] = m[i/8]/worth%2 == 0
	}
	return free, true
}

// plainChunks: where the free chunks of that order begin.
func plainChunks(free []bool, order int) []int {
	size := 1 << order
	var l []int
	for start := 0; start+size <= len(free); start += size {
		if allAre(free[start:start+size], true) {
			l = append(l, start)
		}
	}
	return l
}

func allAre(l []bool, v bool) bool {
	for _, x := range l {
		if x != v {
			return false
		}
	}
	return true
}

// plainTurned: a map like m in which the span's bits are v.
func plainTurned(m []byte, s api.Span, v bool) []byte {
	like := bytes.Clone(m)
	for i := s.Start; i < s.Start+s.Len; i++ {
		like[i/8] &= ^(byte(1) << (i % 8))
		if v {
			like[i/8] += byte(1) << (i % 8)
		}
	}
	return like
}

func plainTake(m []byte, n, want, goal int) ([]byte, api.Span, api.Errno) {
	free, ok := plainPool(m, n)
	if !ok || want < 1 || want > 64 || goal < 0 {
		return nil, api.Span{}, api.ErrArg
	}
	order := 6
	for order > 0 && 1<<(order-1) >= want {
		order--
	}
	for ; order >= 0; order-- {
		l := plainChunks(free, order)
		if len(l) == 0 {
			continue
		}
		start := l[0]
		for k := len(l) - 1; k >= 0; k-- {
			if l[k] >= goal {
				start = l[k]
			}
		}
		s := api.Span{Start: start, Len: want}
		if want > 1<<order {
			s.Len = 1 << order
		}
		return plainTurned(m, s, true), s, api.OK
	}
	return nil, api.Span{}, api.ErrSpace
}

func plainGive(m []byte, n int, s api.Span) ([]byte, api.Errno) {
	free, ok := plainPool(m, n)
	if !ok || s.Start < 0 || s.Start > n || s.Len < 1 || s.Len > n || s.Start > n-s.Len {
		return nil, api.ErrArg
	}
	if !allAre(free[s.Start:s.Start+s.Len], false) {
		return nil, api.ErrExist
	}
	return plainTurned(m, s, false), api.OK
}

func plainOrders(m []byte, n int) ([]int, api.Errno) {
	free, ok := plainPool(m, n)
	if !ok {
		return nil, api.ErrArg
	}
	many := make([]int, 7)
	for order := range many {
		greater := map[int]int{} // the free chunks of the next order: they count their own
		if order < 6 {
			for _, start := range plainChunks(free, order+1) {
				greater[start/(2<<order)]++
			}
		}
		for _, start := range plainChunks(free, order) {
			if greater[start/(2<<order)] == 0 {
				many[order]++
			}
		}
	}
	return many, api.OK
}

func plainFree(m []byte, n int) (int, api.Errno) {
	free, ok := plainPool(m, n)
	if !ok {
		return 0, api.ErrArg
	}
	return len(plainChunks(free, 0)), api.OK
}

// sameMap: whether two answers are the same map; beside an error there has to be none.
func sameMap(got, want []byte, err api.Errno) bool {
	return bytes.Equal(got, want) && (err == api.OK || got == nil)
}

func wantTake(t *testing.T, m []byte, n, want, goal int) {
	t.Helper()
	got, s, err := Take(m, n, want, goal)
	plain, span, code := plainTake(m, n, want, goal)
	if err != code || s != span || !sameMap(got, plain, code) {
		t.Errorf("Take(%x, %d, %d, %d): %x, %v, %d, want %x, %v, %d", m, n, want, goal, got, s, err, plain, span, code)
	}
}

func wantGive(t *testing.T, m []byte, n int, s api.Span) {
	t.Helper()
	got, err := Give(m, n, s)
	plain, code := plainGive(m, n, s)
	if err != code || !sameMap(got, plain, code) {
		t.Errorf("Give(%x, %d, %v): %x, %d, want %x, %d", m, n, s, got, err, plain, code)
	}
}

// wantAsked: what only asks answers as the document says.
func wantAsked(t *testing.T, m []byte, n int) {
	t.Helper()
	orders, err := Orders(m, n)
	plain, code := plainOrders(m, n)
	if err != code || !sameNumbers(orders, plain) || code != api.OK && orders != nil {
		t.Errorf("Orders(%x, %d): %v, %d, want %v, %d", m, n, orders, err, plain, code)
	}
	free, err := Free(m, n)
	many, code := plainFree(m, n)
	if free != many || err != code {
		t.Errorf("Free(%x, %d): %d, %d, want %d, %d", m, n, free, err, many, code)
	}
}

func sameNumbers(a, b []int) bool {
	if len(a) != len(b) {
		return false
	}
	for k := range a {
		if a[k] != b[k] {
			return false
		}
	}
	return true
}

// far: numbers that are far from any pool, the greatest and the least among them.
func far() []int {
	return []int{
		math.MinInt, math.MinInt + 1, math.MinInt + 64, -1 << 62, -1<<32 - 1, -1 << 32, -1<<32 + 1, -1 << 31, -65, -64, -63,
		1 << 16, 1<<31 - 1, 1 << 31, 1<<32 - 1, 1 << 32, 1<<32 + 1, 1<<35 + 2, 1 << 61, 1 << 62, math.MaxInt - 64, math.MaxInt - 63, math.MaxInt - 1, math.MaxInt,
	}
}

// numbers: those round a pool of n blocks, and those far from it.
func numbers(n int) []int {
	l := far()
	for _, at := range []int{0, 1, 2, 4, 8, 16, 32, 64, n / 2, n} {
		l = append(l, at-1, at, at+1)
	}
	return l
}

// wants: the numbers of blocks that are asked for round the powers of two, and wrong ones.
func wants() []int {
	l := far()
	for order := range 7 {
		l = append(l, 1<<order-1, 1<<order, 1<<order+1)
	}
	return append(l, -1, 6, 11, 48)
}

// shapes: maps of no bytes, of one, of some, with free chunks of each order, and with none.
func shapes() [][]byte {
	l := [][]byte{
		nil, {}, {0x00}, {0xff}, {0x06}, {0x07}, {0x77}, {0x7f}, {0xfe}, {0xf0}, {0x0f}, {0x81}, {0xaa}, {0x55},
		{0x00, 0x00}, {0xff, 0xff}, {0xff, 0x00}, {0x00, 0xff}, {0x80, 0x01}, {0x0f, 0xf0}, {0xf0, 0x0f}, {0xff, 0xff, 0xef}, {0xff, 0x00, 0x0f, 0xcf},
	}
	for _, size := range []int{4, 7, 8, 9, 12, 16, 17, 24} {
		l = append(l, make([]byte, size), bytes.Repeat([]byte{0xff}, size), bytes.Repeat([]byte{0x10}, size))
		one := bytes.Repeat([]byte{0xff}, size)
		one[size/2] = 0xbf
		l = append(l, one)
		half := make([]byte, size)
		half[size/2] = 0x01
		l = append(l, half)
	}
	return l
}

// anyMap: a map of up to that many bytes, of which stretches are taken and others free.
func anyMap(r *rand.Rand, most int) []byte {
	m := make([]byte, r.Intn(most+1))
	if r.Intn(4) == 0 {
		r.Read(m)
		return m
	}
	for i, left, v := 0, 0, byte(0); i < 8*len(m); i++ {
		if left == 0 {
			left, v = 1+r.Intn(1<<r.Intn(9)), byte(r.Intn(2))
		}
		m[i/8] |= v << (i % 8)
		left--
	}
	return m
}

// anyBlocks: a number of blocks of that map, mostly all of them; some times a wrong one.
func anyBlocks(r *rand.Rand, m []byte) int {
	switch r.Intn(16) {
	case 0:
		l := numbers(8 * len(m))
		return l[r.Intn(len(l))]
	case 1, 2, 3, 4, 5:
		return r.Intn(8*len(m) + 1)
	}
	return 8 * len(m)
}

// anyNumber: one round a pool of n blocks, or any at all.
func anyNumber(r *rand.Rand, n int) int {
	switch r.Intn(16) {
	case 0:
		return int(r.Uint64())
	case 1:
		l := numbers(n)
		return l[r.Intn(len(l))]
	}
	return r.Intn(max(n, 0)%1000+4) - 2
}

// anyWant: how many blocks are asked for, mostly a number that may be.
func anyWant(r *rand.Rand) int {
	if r.Intn(16) == 0 {
		l := wants()
		return l[r.Intn(len(l))]
	}
	return 1 + r.Intn(1<<r.Intn(7))
}
