package bits

import (
	"bytes"
	"math"
	"math/rand"
	"testing"
)

// The document's words once more, as plainly as can be, to hold the package against: a map is a list of bits, each of which is asked in turn.

// plainBits: the bits of a map, in order.
func plainBits(m []byte) []bool {
	var l []bool
	for _, b := range m {
		for worth := 1; worth <= 128; worth *= 2 {
			l = append(l, int(b)/worth%2 == 1)
		}
	}
	return l
}

// plainMap: the map of these bits.
func plainMap(l []bool) []byte {
	m := make([]byte, len(l)/8)
	for i, v := range l {
		if v {
			m[i/8] += byte(1) << (i % 8)
		}
	}
	return m
}

// named: whether bit i is one of those from from to to - 1.
func named(i, from, to int) bool { return from <= i && i < to }

func plainGet(m []byte, i int) bool {
	for k, v := range plainBits(m) {
		if k == i {
			return v
		}
	}
	return false
}

func plainPut(m []byte, i int, v bool) []byte {
	l := plainBits(m)
	for k := range l {
		if k == i {
			l[k] = v
		}
	}
	return plainMap(l)
}

func plainCount(l []bool, from, to int) int {
	n := 0
	for i, v := range l {
		if named(i, from, to) && v {
			n++
		}
	}
	return n
}

func plainFirst(l []bool, from, to int, v bool) int {
	for i := range l {
		if named(i, from, to) && l[i] == v {
			return i
		}
	}
	return -1
}

func plainFill(m []byte, from, to int, v bool) []byte {
	l := plainBits(m)
	for i := range l {
		if named(i, from, to) {
			l[i] = v
		}
	}
	return plainMap(l)
}

// plainLongest: the longest run of all that begin anywhere.
func plainLongest(l []bool, from, to int) (int, int) {
	longest, most := -1, 0
	for begin := range l {
		n := 0
		for i := begin; i < len(l) && named(i, from, to) && !l[i]; i++ {
			n++
		}
		if n > most {
			longest, most = begin, n
		}
	}
	return longest, most
}

// wantBit: Get and Put of that bit answer as the document says.
func wantBit(t *testing.T, m []byte, i int) {
	t.Helper()
	if v := Get(m, i); v != plainGet(m, i) {
		t.Errorf("Get(%x, %d): %v", m, i, v)
	}
	for _, v := range []bool{false, true} {
		if got, want := Put(m, i, v), plainPut(m, i, v); !bytes.Equal(got, want) {
			t.Errorf("Put(%x, %d, %v): %x, want %x", m, i, v, got, want)
		}
	}
}

// wantPart: all calls of a part answer as the document says.
func wantPart(t *testing.T, m []byte, from, to int) {
	t.Helper()
	l := plainBits(m)
	if got, want := Count(m, from, to), plainCount(l, from, to); got != want {
		t.Errorf("Count(%x, %d, %d): %d, want %d", m, from, to, got, want)
	}
	for _, v := range []bool{false, true} {
		if got, want := First(m, from, to, v), plainFirst(l, from, to, v); got != want {
			t.Errorf("First(%x, %d, %d, %v): %d, want %d", m, from, to, v, got, want)
		}
		if got, want := Fill(m, from, to, v), plainFill(m, from, to, v); !bytes.Equal(got, want) {
			t.Errorf("Fill(%x, %d, %d, %v): %x, want %x", m, from, to, v, got, want)
		}
	}
	at, n := Longest(m, from, to)
	if wantAt, wantN := plainLongest(l, from, to); at != wantAt || n != wantN {
		t.Errorf("Longest(%x, %d, %d): %d, %d, want %d, %d", m, from, to, at, n, wantAt, wantN)
	}
}

// edges: numbers that lie at the ends of a map, of its bytes and of all numbers.
func edges(m []byte) []int {
	l := []int{
		math.MinInt, math.MinInt + 1, math.MinInt + 7, math.MinInt + 8, -1 << 62, -1<<32 - 1, -1 << 32, -1<<32 + 1, -1 << 31, -1 << 16, -256, -9, -8, -7, -1,
		1 << 16, 1<<31 - 1, 1 << 31, 1<<32 - 1, 1 << 32, 1<<32 + 1, 1<<35 + 2, 1 << 61, 1<<61 + 1, 1 << 62, math.MaxInt - 8, math.MaxInt - 7, math.MaxInt - 1, math.MaxInt,
	}
	for k := range len(m) {
		l = append(l, 8*k, 8*k+1, 8*k+6, 8*k+7)
	}
	end := 8 * len(m)
	return append(l, end, end+1, end+7, end+8)
}

// shapes: maps of no bytes, of one, of some, all 0, all 1 and others.
func shapes() [][]byte {
	return [][]byte{
		nil, {}, {0x00}, {0xff}, {0x06}, {0x01}, {0x80}, {0x7f}, {0xfe}, {0x00, 0x00}, {0xff, 0xff}, {0xff, 0x00}, {0x00, 0xff}, {0x80, 0x01}, {0x7f, 0xfe}, {0x01, 0x80},
		{0x00, 0x00, 0x00}, {0xff, 0xff, 0xff}, {0x55, 0xaa, 0x55}, {0xff, 0x7f, 0xff}, {0xff, 0xfe, 0xff}, {0x3f, 0x00, 0xfc}, {0x01, 0x00, 0x00, 0x80}, {0x0f, 0xff, 0xf0, 0x18, 0x00},
	}
}

// anyMap: a map of up to that many bytes, which may be any, or nearly all 0, or nearly all 1.
func anyMap(r *rand.Rand, most int) []byte {
	m := make([]byte, r.Intn(most+1))
	kind := r.Intn(4)
	for k := range m {
		switch kind {
		case 0:
			m[k] = byte(r.Intn(256))
		case 1:
			m[k] = byte(1 << r.Intn(24))
		case 2:
			m[k] = ^byte(1 << r.Intn(24))
		default:
			m[k] = -byte(r.Intn(2))
		}
	}
	return m
}

// anyNumber: one in the map, near it, or any at all.
func anyNumber(r *rand.Rand, m []byte) int {
	switch r.Intn(8) {
	case 0:
		return int(r.Uint64())
	case 1:
		l := edges(m)
		return l[r.Intn(len(l))]
	default:
		return r.Intn(8*len(m)+20) - 10
	}
}

// anyPart: two numbers, from mostly below to.
func anyPart(r *rand.Rand, m []byte) (int, int) {
	from, to := anyNumber(r, m), anyNumber(r, m)
	if from > to && r.Intn(8) > 0 {
		return to, from
	}
	return from, to
}
