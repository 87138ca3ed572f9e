package buddy

import (
	"bytes"
	"math"
	"math/rand"
	"testing"

	"undercroft/api"
)

// P8.1: every call answers as said.

func TestExamples(t *testing.T) {
	for _, c := range []struct {
		m          byte
		want, goal int
		behind     byte
		s          api.Span
	}{
		{0x00, 3, 0, 0x07, api.Span{Start: 0, Len: 3}},
		{0x07, 3, 0, 0x77, api.Span{Start: 4, Len: 3}},
		{0x77, 2, 0, 0x7f, api.Span{Start: 3, Len: 1}},
	} {
		m, s, err := Take([]byte{c.m}, 8, c.want, c.goal)
		if err != api.OK || s != c.s || !bytes.Equal(m, []byte{c.behind}) {
			t.Errorf("Take of %x: %x, %v, %d", c.m, m, s, err)
		}
	}
	orders, err := Orders([]byte{0x07}, 8)
	if err != api.OK || !sameNumbers(orders, []int{1, 0, 1, 0, 0, 0, 0}) {
		t.Errorf("Orders of 07: %v, %d", orders, err)
	}
	if m, err := Give([]byte{0x07}, 8, api.Span{Start: 2, Len: 2}); err != api.ErrExist || m != nil {
		t.Errorf("Give of a span of which a block is free: %x, %d", m, err)
	}
}

// ones: a map of that many bytes all of whose bits are 1, but those of these spans.
func ones(size int, free ...api.Span) []byte {
	m := bytes.Repeat([]byte{0xff}, size)
	for _, s := range free {
		m = plainTurned(m, s, false)
	}
	return m
}

// zeros: likewise, all bits being 0 but those of these spans.
func zeros(size int, taken ...api.Span) []byte {
	m := make([]byte, size)
	for _, s := range taken {
		m = plainTurned(m, s, true)
	}
	return m
}

// Errors come in the order in which the document names them: a wrong argument ahead of a full pool, and of a block that is free already.
func TestErrors(t *testing.T) {
	full, empty := ones(2), zeros(2)
	for _, n := range []int{-1, 17, -16, -17, math.MinInt, math.MinInt + 1, math.MaxInt, math.MaxInt - 7, 1 << 32, 1<<32 + 8, 1 << 61, 1 << 62} {
		for _, m := range [][]byte{full, empty} {
			if got, s, err := Take(m, n, 1, 0); got != nil || s != (api.Span{}) || err != api.ErrArg {
				t.Errorf("Take of %d blocks: %x, %v, %d", n, got, s, err)
			}
			if got, err := Give(m, n, api.Span{Start: 0, Len: 1}); got != nil || err != api.ErrArg {
				t.Errorf("Give of %d blocks: %x, %d", n, got, err)
			}
			if got, err := Orders(m, n); got != nil || err != api.ErrArg {
				t.Errorf("Orders of %d blocks: %v, %d", n, got, err)
			}
			if got, err := Free(m, n); got != 0 || err != api.ErrArg {
				t.Errorf("Free of %d blocks: %d, %d", n, got, err)
			}
		}
	}
	for _, c := range []struct {
		m          []byte
		want, goal int
		err        api.Errno
		what       string
	}{
		{full, 0, 0, api.ErrArg, "no blocks wanted of a full pool"},
		{full, 65, 0, api.ErrArg, "65 blocks wanted of a full pool"},
		{full, 1, -1, api.ErrArg, "a goal below 0 of a full pool"},
		{full, 1, 0, api.ErrSpace, "one block wanted of a full pool"},
		{full, 64, math.MaxInt, api.ErrSpace, "64 blocks wanted of a full pool from far behind"},
		{empty, 0, 0, api.ErrArg, "no blocks wanted"},
		{empty, -1, 0, api.ErrArg, "-1 block wanted"},
		{empty, 65, 0, api.ErrArg, "65 blocks wanted"},
		{empty, math.MaxInt, 0, api.ErrArg, "the greatest number of blocks wanted"},
		{empty, math.MinInt, 0, api.ErrArg, "the least number of blocks wanted"},
		{empty, 1, -1, api.ErrArg, "a goal of -1"},
		{empty, 1, math.MinInt, api.ErrArg, "the least goal"},
	} {
		if got, s, err := Take(c.m, 16, c.want, c.goal); got != nil || s != (api.Span{}) || err != c.err {
			t.Errorf("%s: %x, %v, %d", c.what, got, s, err)
		}
	}
}

func TestTake(t *testing.T) {
	for _, c := range []struct {
		m             []byte
		n, want, goal int
		start, len    int
		what          string
	}{
		{zeros(1), 8, 1, 0, 0, 1, "one block"},
		{zeros(1), 8, 2, 0, 0, 2, "two"},
		{zeros(1), 8, 4, 0, 0, 4, "four"},
		{zeros(1), 8, 5, 0, 0, 5, "five of a chunk of eight"},
		{zeros(1), 8, 64, 0, 0, 8, "the greatest chunk has fewer than are wanted"},
		{zeros(1), 1, 64, 0, 0, 1, "a pool of one block"},
		{zeros(16), 128, 63, 0, 0, 63, "63 of a chunk of order 6"},
		{zeros(16), 128, 64, 0, 0, 64, "a whole chunk of order 6"},
		{zeros(16), 128, 33, 1, 64, 33, "33 take a chunk of order 6"},
		{zeros(16), 128, 32, 1, 32, 32, "32 take one of order 5"},

		{zeros(2), 16, 3, 4, 4, 3, "goal at a chunk's beginning"},
		{zeros(2), 16, 3, 5, 8, 3, "goal within a chunk"},
		{zeros(2), 16, 3, 7, 8, 3, "goal at a chunk's last block"},
		{zeros(2), 16, 3, 12, 12, 3, "goal at the last chunk"},
		{zeros(2), 16, 3, 13, 0, 3, "goal within the last chunk"},
		{zeros(2), 16, 1, 15, 15, 1, "goal at the last block"},
		{zeros(2), 16, 1, 16, 0, 1, "goal behind the last block"},
		{zeros(2), 16, 2, 15, 0, 2, "goal at the last block, two wanted"},
		{zeros(2), 16, 1, math.MaxInt, 0, 1, "the greatest goal"},
		{zeros(2), 16, 64, math.MaxInt, 0, 16, "the greatest goal, 64 wanted"},
		{zeros(2), 16, 16, 1, 0, 16, "the one chunk begins ahead of goal"},
		{zeros(24), 192, 64, 65, 128, 64, "goal within the second chunk of order 6"},

		{ones(4, api.Span{Start: 4, Len: 4}, api.Span{Start: 24, Len: 4}), 32, 4, 5, 24, 4, "goal within a free chunk, another behind it"},
		{ones(4, api.Span{Start: 4, Len: 4}, api.Span{Start: 24, Len: 4}), 32, 4, 25, 4, 4, "free chunks ahead of goal only"},
		{ones(4, api.Span{Start: 4, Len: 4}, api.Span{Start: 12, Len: 4}), 32, 4, 20, 4, 4, "two ahead of goal: the first one"},
		{ones(4, api.Span{Start: 4, Len: 4}, api.Span{Start: 24, Len: 2}), 32, 4, 24, 4, 4, "a chunk of the least order ahead of goal, a smaller one behind it"},
		{ones(4, api.Span{Start: 4, Len: 4}, api.Span{Start: 24, Len: 2}), 32, 2, 5, 6, 2, "the second half of a greater chunk"},
		{ones(4, api.Span{Start: 4, Len: 4}, api.Span{Start: 24, Len: 2}), 32, 2, 7, 24, 2, "a greater chunk's last half is ahead of goal"},
		{ones(4, api.Span{Start: 0, Len: 8}, api.Span{Start: 24, Len: 2}), 32, 2, 0, 0, 2, "the first fitting chunk, not the one that fits best"},
		{ones(4, api.Span{Start: 8, Len: 8}), 32, 1, 13, 13, 1, "in the midst of a greater chunk"},

		{ones(2, api.Span{Start: 2, Len: 4}), 16, 4, 0, 2, 2, "four free blocks that are no chunk"},
		{ones(2, api.Span{Start: 2, Len: 4}), 16, 4, 3, 4, 2, "the same, the second half from goal on"},
		{ones(2, api.Span{Start: 1, Len: 6}), 16, 3, 0, 2, 2, "six free blocks without a chunk of four"},
		{ones(2, api.Span{Start: 1, Len: 2}), 16, 2, 0, 1, 1, "two free blocks that are no chunk"},
		{ones(2, api.Span{Start: 5, Len: 1}), 16, 64, 0, 5, 1, "one free block alone"},
		{ones(2, api.Span{Start: 5, Len: 1}), 16, 64, 6, 5, 1, "one free block alone, ahead of goal"},
		{ones(2, api.Span{Start: 15, Len: 1}), 16, 2, 0, 15, 1, "the last block alone"},
		{ones(2, api.Span{Start: 0, Len: 1}), 16, 2, 15, 0, 1, "the first block alone"},
		{ones(16, api.Span{Start: 33, Len: 94}), 128, 64, 0, 64, 32, "no chunk of order 6, but of order 5"},
		{ones(16, api.Span{Start: 33, Len: 94}), 128, 64, 65, 64, 32, "the same, ahead of goal"},

		{zeros(2), 7, 4, 0, 0, 4, "n cuts a chunk of eight: a whole one ahead of it"},
		{zeros(2), 7, 4, 4, 0, 4, "the chunk from goal on is cut"},
		{zeros(2), 7, 5, 0, 0, 4, "n cuts the one chunk that has as many as are wanted"},
		{zeros(2), 7, 2, 6, 0, 2, "a chunk of two is cut"},
		{zeros(2), 7, 1, 6, 6, 1, "the last block"},
		{zeros(2), 7, 1, 7, 0, 1, "a free bit behind n"},
		{zeros(1, api.Span{Start: 0, Len: 4}), 7, 4, 0, 4, 2, "the rest of a cut chunk"},
		{zeros(1, api.Span{Start: 0, Len: 6}), 7, 4, 0, 6, 1, "the last block of a cut chunk"},
		{zeros(16), 127, 64, 1, 0, 64, "n is one short of two chunks of order 6"},
		{zeros(16), 127, 32, 64, 64, 32, "its first half is whole"},
		{zeros(16), 127, 32, 65, 0, 32, "its second half is cut, so that none is from goal on"},
		{zeros(8), 63, 64, 0, 0, 32, "n is one short of a chunk of order 6"},
	} {
		m, s, err := Take(c.m, c.n, c.want, c.goal)
		span := api.Span{Start: c.start, Len: c.len}
		if err != api.OK || s != span || !bytes.Equal(m, plainTurned(c.m, span, true)) {
			t.Errorf("%s: Take(%x, %d, %d, %d): %x, %v, %d, want %v", c.what, c.m, c.n, c.want, c.goal, m, s, err, span)
		}
		wantTake(t, c.m, c.n, c.want, c.goal)
	}
}

// Of a full pool nothing is given, whatever stands from n on, and of no blocks neither.
func TestTakeOfNone(t *testing.T) {
	for _, c := range []struct {
		m []byte
		n int
	}{
		{nil, 0}, {[]byte{}, 0}, {zeros(1), 0}, {ones(1), 0}, {zeros(1, api.Span{Start: 0, Len: 5}), 5}, {ones(1), 5}, {ones(1), 8}, {ones(8), 64}, {ones(20), 160}, {zeros(20, api.Span{Start: 0, Len: 129}), 129},
	} {
		for want := 1; want <= 64; want++ {
			for _, goal := range []int{0, 1, c.n, c.n + 1, math.MaxInt} {
				if m, s, err := Take(c.m, c.n, want, goal); m != nil || s != (api.Span{}) || err != api.ErrSpace {
					t.Errorf("Take(%x, %d, %d, %d): %x, %v, %d", c.m, c.n, want, goal, m, s, err)
				}
			}
		}
	}
}

func TestGive(t *testing.T) {
	for _, c := range []struct {
		m          []byte
		n          int
		start, len int
		err        api.Errno
		what       string
	}{
		{ones(2), 16, 0, 16, api.OK, "all"},
		{ones(2), 16, 0, 1, api.OK, "the first block"},
		{ones(2), 16, 15, 1, api.OK, "the last block"},
		{ones(2), 16, 3, 7, api.OK, "no chunk"},
		{ones(2), 11, 4, 7, api.OK, "ends at n"},
		{ones(2), 11, 4, 8, api.ErrArg, "ends one behind n"},
		{ones(2), 11, 11, 1, api.ErrArg, "begins at n"},
		{ones(2), 11, 12, 1, api.ErrArg, "begins behind n"},
		{ones(2), 16, 16, 1, api.ErrArg, "begins behind the map"},
		{ones(2), 0, 0, 1, api.ErrArg, "of no blocks"},
		{nil, 0, 0, 1, api.ErrArg, "of no map"},
		{nil, 0, 0, 0, api.ErrArg, "nothing of no map"},
		{ones(2), 16, 4, 0, api.ErrArg, "Len 0"},
		{ones(2), 16, 16, 0, api.ErrArg, "Len 0 at n"},
		{ones(2), 16, 4, -1, api.ErrArg, "Len -1"},
		{ones(2), 16, 4, math.MinInt, api.ErrArg, "the least Len"},
		{ones(2), 16, -1, 2, api.ErrArg, "begins below 0"},
		{ones(2), 16, -1, 1, api.ErrArg, "lies below 0"},
		{ones(2), 16, math.MinInt, 1, api.ErrArg, "begins at the least int"},
		{ones(2), 16, math.MinInt, math.MinInt, api.ErrArg, "both the least, whose sum is 0"},
		{ones(2), 16, math.MinInt + 1, math.MaxInt, api.ErrArg, "from the least to the greatest, whose sum is 0"},
		{ones(2), 16, 1, math.MaxInt, api.ErrArg, "a sum that passes the greatest int"},
		{ones(2), 16, math.MaxInt, 1, api.ErrArg, "begins at the greatest int"},
		{ones(2), 16, math.MaxInt, math.MaxInt, api.ErrArg, "both the greatest"},
		{ones(2), 16, 1<<32 + 1, 2, api.ErrArg, "begins behind, but at the same low bits"},
		{ones(2), 16, 1, 1<<32 + 2, api.ErrArg, "as long, by its low bits"},
		{ones(2, api.Span{Start: 4, Len: 1}), 16, 4, 6, api.ErrExist, "the first block is free"},
		{ones(2, api.Span{Start: 7, Len: 1}), 16, 4, 6, api.ErrExist, "a middle block is free"},
		{ones(2, api.Span{Start: 8, Len: 1}), 16, 4, 6, api.ErrExist, "a middle block of the next byte is free"},
		{ones(2, api.Span{Start: 9, Len: 1}), 16, 4, 6, api.ErrExist, "the last block is free"},
		{ones(2, api.Span{Start: 3, Len: 1}, api.Span{Start: 10, Len: 1}), 16, 4, 6, api.OK, "those on both sides are free"},
		{zeros(2), 16, 4, 6, api.ErrExist, "all are free"},
		{zeros(2), 8, 4, 6, api.ErrArg, "all are free, but not all there"},
		{zeros(2, api.Span{Start: 4, Len: 6}), 16, 4, 6, api.OK, "the only ones that are taken"},
		{zeros(1, api.Span{Start: 0, Len: 5}), 5, 0, 5, api.OK, "all, bits from n on being 0"},
		{ones(20), 160, 1, 158, api.OK, "more than a chunk has"},
	} {
		s := api.Span{Start: c.start, Len: c.len}
		m, err := Give(c.m, c.n, s)
		if err != c.err || err != api.OK && m != nil || err == api.OK && !bytes.Equal(m, plainTurned(c.m, s, false)) {
			t.Errorf("%s: Give(%x, %d, %v): %x, %d, want %d", c.what, c.m, c.n, s, m, err, c.err)
		}
		wantGive(t, c.m, c.n, s)
	}
}

func TestOrdersAndFree(t *testing.T) {
	for _, c := range []struct {
		m    []byte
		n    int
		want []int
		free int
		what string
	}{
		{nil, 0, []int{0, 0, 0, 0, 0, 0, 0}, 0, "no map"},
		{ones(1), 0, []int{0, 0, 0, 0, 0, 0, 0}, 0, "no blocks"},
		{zeros(1), 0, []int{0, 0, 0, 0, 0, 0, 0}, 0, "no blocks, bits from n on being 0"},
		{zeros(1), 8, []int{0, 0, 0, 1, 0, 0, 0}, 8, "all free"},
		{ones(1), 8, []int{0, 0, 0, 0, 0, 0, 0}, 0, "all taken"},
		{zeros(1), 1, []int{1, 0, 0, 0, 0, 0, 0}, 1, "one block"},
		{zeros(1), 7, []int{1, 1, 1, 0, 0, 0, 0}, 7, "n cuts the chunk of all"},
		{ones(1, api.Span{Start: 0, Len: 7}), 7, []int{1, 1, 1, 0, 0, 0, 0}, 7, "likewise, bits from n on being 1"},
		{zeros(1, api.Span{Start: 0, Len: 4}), 8, []int{0, 0, 1, 0, 0, 0, 0}, 4, "the neighbour ahead isn't free"},
		{zeros(1, api.Span{Start: 4, Len: 4}), 8, []int{0, 0, 1, 0, 0, 0, 0}, 4, "the neighbour behind isn't free"},
		{zeros(1, api.Span{Start: 4, Len: 1}), 8, []int{1, 1, 1, 0, 0, 0, 0}, 7, "one block of the neighbour isn't free"},
		{zeros(1, api.Span{Start: 7, Len: 1}), 8, []int{1, 1, 1, 0, 0, 0, 0}, 7, "the last one isn't"},
		{zeros(1, api.Span{Start: 0, Len: 1}), 8, []int{1, 1, 1, 0, 0, 0, 0}, 7, "the first one isn't"},
		{ones(1, api.Span{Start: 1, Len: 2}), 8, []int{2, 0, 0, 0, 0, 0, 0}, 2, "two side by side that are no chunk"},
		{ones(2, api.Span{Start: 4, Len: 8}), 16, []int{0, 0, 2, 0, 0, 0, 0}, 8, "two chunks side by side that are none of the next order"},
		{[]byte{0xaa, 0x55}, 16, []int{8, 0, 0, 0, 0, 0, 0}, 8, "single blocks"},
		{zeros(8), 64, []int{0, 0, 0, 0, 0, 0, 1}, 64, "one of order 6"},
		{zeros(8), 63, []int{1, 1, 1, 1, 1, 1, 0}, 63, "n cuts the chunk of order 6"},
		{zeros(8, api.Span{Start: 63, Len: 1}), 64, []int{1, 1, 1, 1, 1, 1, 0}, 63, "the last block of order 6 isn't free"},
		{zeros(9), 65, []int{1, 0, 0, 0, 0, 0, 1}, 65, "one more than a chunk of order 6"},
		{zeros(16), 128, []int{0, 0, 0, 0, 0, 0, 2}, 128, "two of order 6, both being told"},
		{zeros(16, api.Span{Start: 64, Len: 32}), 128, []int{0, 0, 0, 0, 0, 1, 1}, 96, "half of the second one"},
		{zeros(32), 256, []int{0, 0, 0, 0, 0, 0, 4}, 256, "four of order 6"},
		{zeros(32), 255, []int{1, 1, 1, 1, 1, 1, 3}, 255, "n cuts the fourth one"},
		{ones(16, api.Span{Start: 32, Len: 64}), 128, []int{0, 0, 0, 0, 0, 2, 0}, 64, "64 free blocks that are no chunk"},
	} {
		orders, err := Orders(c.m, c.n)
		if err != api.OK || !sameNumbers(orders, c.want) {
			t.Errorf("%s: Orders(%x, %d): %v, %d, want %v", c.what, c.m, c.n, orders, err, c.want)
		}
		if free, err := Free(c.m, c.n); err != api.OK || free != c.free {
			t.Errorf("%s: Free(%x, %d): %d, %d, want %d", c.what, c.m, c.n, free, err, c.free)
		}
		wantAsked(t, c.m, c.n)
	}
}

// What stands in the map from n on is no matter, and stays.
func TestBitsFromNOn(t *testing.T) {
	r := rand.New(rand.NewSource(80))
	for range 3000 {
		m := anyMap(r, 20)
		n := r.Intn(8*len(m) + 1)
		rest := api.Span{Start: n, Len: 8*len(m) - n}
		clear, set := plainTurned(m, rest, false), plainTurned(m, rest, true)
		want, goal := 1+r.Intn(64), r.Intn(n+4)
		a, s, err := Take(clear, n, want, goal)
		b, other, code := Take(set, n, want, goal)
		if s != other || err != code || err == api.OK && !bytes.Equal(plainTurned(a, rest, true), b) {
			t.Errorf("Take(%x, %d, %d, %d): %x, %v, %d, but %x, %v, %d with 1s behind", clear, n, want, goal, a, s, err, b, other, code)
		}
		first, _ := Orders(clear, n)
		if second, err := Orders(set, n); err != api.OK || !sameNumbers(first, second) {
			t.Errorf("Orders(%x, %d): %v, but %v, %d with 1s behind", clear, n, first, second, err)
		}
		many, _ := Free(clear, n)
		if same, err := Free(set, n); err != api.OK || many != same {
			t.Errorf("Free(%x, %d): %d, but %d, %d with 1s behind", clear, n, many, same, err)
		}
	}
}

// All maps of one byte, with all numbers round them.
func TestEachByte(t *testing.T) {
	for b := range 256 {
		m := []byte{byte(b)}
		for n := -1; n <= 9; n++ {
			wantAsked(t, m, n)
			for goal := -1; goal <= 10; goal++ {
				for want := 0; want <= 9; want++ {
					wantTake(t, m, n, want, goal)
				}
				wantTake(t, m, n, 64, goal)
				wantTake(t, m, n, 65, goal)
			}
			for start := -1; start <= 9; start++ {
				for size := -1; size <= 10; size++ {
					wantGive(t, m, n, api.Span{Start: start, Len: size})
				}
			}
		}
	}
}

// All maps of two bytes, with some numbers.
func TestEachTwoBytes(t *testing.T) {
	for b := range 1 << 16 {
		m := []byte{byte(b), byte(b >> 8)}
		n := 16 - b/7%5*(b%2)
		wantAsked(t, m, n)
		for _, want := range []int{1, 2, 4, 8, 16} {
			wantTake(t, m, n, want-b%3%want, b/13%18)
		}
		wantGive(t, m, n, api.Span{Start: b / 11 % 16, Len: 1 + b%5})
	}
}

// Some maps with all numbers, also those far off.
func TestEachShape(t *testing.T) {
	for _, m := range shapes() {
		l := numbers(8 * len(m))
		for _, n := range l {
			wantAsked(t, m, n)
			for _, at := range l {
				for _, want := range []int{1, 2, 3, 63, 64} {
					wantTake(t, m, n, want, at)
				}
				wantGive(t, m, n, api.Span{Start: at, Len: 1})
				wantGive(t, m, n, api.Span{Start: 0, Len: at})
			}
		}
		for _, want := range wants() {
			wantTake(t, m, 8*len(m), want, 0)
			wantTake(t, m, 8*len(m), want, 3)
		}
		for _, start := range l {
			for _, size := range l {
				wantGive(t, m, 8*len(m), api.Span{Start: start, Len: size})
			}
		}
	}
}

func TestAnyPools(t *testing.T) {
	r := rand.New(rand.NewSource(8))
	for range 20000 {
		m := anyMap(r, 40)
		n := anyBlocks(r, m)
		wantAsked(t, m, n)
		wantTake(t, m, n, anyWant(r), anyNumber(r, n))
		wantGive(t, m, n, api.Span{Start: anyNumber(r, n), Len: anyWant(r)})
		wantGive(t, m, n, api.Span{Start: anyNumber(r, n), Len: anyNumber(r, n)})
	}
}

// A pool of many blocks: numbers are beyond 16 bits, and each call still ends.
func TestGreatPool(t *testing.T) {
	const size = 1 << 17
	n := 8*size - 1
	m := bytes.Repeat([]byte{0xff}, size)
	if _, _, err := Take(m, n, 1, 0); err != api.ErrSpace {
		t.Errorf("Take of a full one: %d", err)
	}
	m[size-1], m[size/2] = 0x7f, 0x0f
	if _, s, err := Take(m, n, 64, n-1); err != api.OK || s != (api.Span{Start: 4*size + 4, Len: 4}) {
		t.Errorf("Take of one with four free: %v, %d", s, err)
	}
	if free, err := Free(m, n); err != api.OK || free != 4 {
		t.Errorf("Free: %d, %d", free, err)
	}
	m, err := Give(m, n, api.Span{Start: n - 1, Len: 1})
	if err != api.OK || m[size-1] != 0x3f {
		t.Errorf("Give: %d, %x", err, m[size-1])
	}
	if orders, err := Orders(m, n); err != api.OK || !sameNumbers(orders, []int{1, 0, 1, 0, 0, 0, 0}) {
		t.Errorf("Orders: %v, %d", orders, err)
	}
	if orders, err := Orders(make([]byte, size), n); err != api.OK || !sameNumbers(orders, []int{1, 1, 1, 1, 1, 1, size/8 - 1}) {
		t.Errorf("Orders of an empty one: %v, %d", orders, err)
	}
}
