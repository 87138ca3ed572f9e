package inode

import (
	"bytes"
	"encoding/binary"
	"hash/crc32"
	"math"
	"math/rand"
	"testing"

	"undercroft/api"
)

// The document's words once more, as plainly as can be, to hold the package against.

// plainMay: whether an inode may be as x is.
func plainMay(x api.Inode) bool {
	switch {
	case x.Kind != 1 && x.Kind != 2 && x.Kind != 3:
		return false
	case x.Links < 0 || x.Links > 100:
		return false
	case x.Size < 0 || x.Size > 65536:
		return false
	case x.Attrs < 0 || x.Attrs > 1023:
		return false
	case len(x.Body) != 60:
		return false
	}
	return !x.Inline || x.Kind != 2 && x.Size <= 60
}

// plainNone: whether all fields of x are zero.
func plainNone(x api.Inode) bool { return same(x, api.Inode{}) }

// plainNumber: whether an inode may have that number.
func plainNumber(number int) bool { return number >= 0 && number <= 1048576 }

// plainCheck: what Check is to answer.
func plainCheck(x api.Inode) api.Errno {
	if plainMay(x) {
		return api.OK
	}
	return api.ErrArg
}

// plainEncode: what Encode is to answer.
func plainEncode(x api.Inode, number int) ([]byte, api.Errno) {
	switch {
	case !plainNumber(number):
		return nil, api.ErrArg
	case plainNone(x):
		return make([]byte, 128), api.OK
	case plainMay(x):
		return plainBytes(x, number), api.OK
	}
	return nil, api.ErrArg
}

// plainBytes: the bytes that tell x with a right sum, whether it may be or not (of numbers that are too great their lowest bytes, of a Body as much as there is room for).
func plainBytes(x api.Inode, number int) []byte {
	b := make([]byte, 128)
	b[0] = byte(x.Kind)
	if x.Inline {
		b[1] = 1
	}
	binary.LittleEndian.PutUint16(b[2:], uint16(x.Links))
	binary.LittleEndian.PutUint32(b[4:], uint32(x.Size))
	binary.LittleEndian.PutUint32(b[8:], uint32(x.Attrs))
	copy(b[12:72], x.Body)
	return sealed(b, number)
}

// sealed: 128 bytes like b, of which the last four are the sum.
func sealed(b []byte, number int) []byte {
	like := bytes.Clone(b)
	binary.LittleEndian.PutUint32(like[124:], plainSum(b[:124], number))
	return like
}

// plainSum: the sum of a number in 4 bytes and the bytes behind it.
func plainSum(b []byte, number int) uint32 {
	return crcOf(append(binary.LittleEndian.AppendUint32(nil, uint32(number)), b...))
}

// crcOf: the sum of bytes alone.
func crcOf(b []byte) uint32 { return crc32.Checksum(b, crc32.MakeTable(crc32.Castagnoli)) }

// plainDecode: what Decode is to answer.
func plainDecode(b []byte, number int) (api.Inode, api.Errno) {
	if !plainNumber(number) {
		return api.Inode{}, api.ErrArg
	}
	if bytes.Equal(b, make([]byte, 128)) {
		return api.Inode{}, api.OK
	}
	if len(b) != 128 || b[1] > 1 || binary.LittleEndian.Uint32(b[124:]) != plainSum(b[:124], number) {
		return api.Inode{}, api.ErrClean
	}
	x := api.Inode{
		Kind:   int(b[0]),
		Inline: b[1] == 1,
		Links:  int(b[2]) + 256*int(b[3]),
		Size:   int(binary.LittleEndian.Uint32(b[4:])),
		Attrs:  int(binary.LittleEndian.Uint32(b[8:])),
		Body:   bytes.Clone(b[12:72]),
	}
	for _, c := range b[72:124] {
		if c != 0 {
			return api.Inode{}, api.ErrClean
		}
	}
	if !plainMay(x) {
		return api.Inode{}, api.ErrClean
	}
	return x, api.OK
}

// same: whether two inodes are the same. (A Body of none may be nil or empty.)
func same(x, y api.Inode) bool {
	return x.Kind == y.Kind && x.Links == y.Links && x.Size == y.Size && x.Inline == y.Inline && x.Attrs == y.Attrs && bytes.Equal(x.Body, y.Body)
}

// wantEncode, wantDecode and wantCheck: the call answers as the document says.

func wantEncode(t *testing.T, x api.Inode, number int) {
	t.Helper()
	want, wanted := plainEncode(x, number)
	if b, err := Encode(x, number); err != wanted || !bytes.Equal(b, want) {
		t.Errorf("Encode(%+v, %d): %x, error %d, want %x, error %d", x, number, b, err, want, wanted)
	}
}

func wantDecode(t *testing.T, what string, b []byte, number int) {
	t.Helper()
	want, wanted := plainDecode(b, number)
	if x, err := Decode(b, number); err != wanted || !same(x, want) {
		t.Errorf("%s: Decode(%x, %d): %+v, error %d, want %+v, error %d", what, b, number, x, err, want, wanted)
	}
}

func wantCheck(t *testing.T, x api.Inode) {
	t.Helper()
	if err := Check(x); err != plainCheck(x) {
		t.Errorf("Check(%+v): error %d, want %d", x, err, plainCheck(x))
	}
}

// wantRefused: Encode refuses x with that number.
func wantRefused(t *testing.T, x api.Inode, number int) {
	t.Helper()
	if b, err := Encode(x, number); len(b) != 0 || err != api.ErrArg {
		t.Errorf("Encode(%+v, %d): %x, error %d, want no bytes, error %d", x, number, b, err, api.ErrArg)
	}
}

// wantRead: Decode of b with that number answers x.
func wantRead(t *testing.T, what string, b []byte, number int, x api.Inode) {
	t.Helper()
	if got, err := Decode(b, number); err != api.OK || !same(got, x) {
		t.Errorf("%s: Decode(%x, %d): %+v, error %d, want %+v", what, b, number, got, err, x)
	}
}

// wantUnread: Decode of b with that number answers that error alone.
func wantUnread(t *testing.T, what string, b []byte, number int, wanted api.Errno) {
	t.Helper()
	if x, err := Decode(b, number); err != wanted || !plainNone(x) {
		t.Errorf("%s: Decode(%x, %d): %+v, error %d, want the zero Inode, error %d", what, b, number, x, err, wanted)
	}
}

// encoded: the bytes of x, which may be with that number.
func encoded(t *testing.T, x api.Inode, number int) []byte {
	t.Helper()
	b, err := Encode(x, number)
	if err != api.OK || len(b) != 128 {
		t.Fatalf("Encode(%+v, %d): %d bytes, error %d", x, number, len(b), err)
	}
	return b
}

// text: a Body that begins with s.
func text(s string) []byte {
	b := make([]byte, 60)
	copy(b, s)
	return b
}

// counting: a Body of 1, 2 .. 60.
func counting() []byte {
	b := make([]byte, 60)
	for i := range b {
		b[i] = byte(i + 1)
	}
	return b
}

// all: a Body of one byte only.
func all(c byte) []byte { return bytes.Repeat([]byte{c}, 60) }

// example: the document's.
func example() api.Inode {
	return api.Inode{Kind: 1, Links: 1, Size: 3, Inline: true, Body: text("abc")}
}

// few: inodes of all kinds that may be, for tests that are long for each.
func few() []api.Inode {
	return []api.Inode{
		example(),
		{Kind: 1, Body: make([]byte, 60)},
		{Kind: 2, Body: make([]byte, 60)},
		{Kind: 3, Body: make([]byte, 60)},
		{Kind: 1, Inline: true, Body: make([]byte, 60)},
		{Kind: 1, Links: 100, Size: 65536, Attrs: 1023, Body: all(0xff)},
		{Kind: 2, Links: 100, Size: 65536, Attrs: 1023, Body: all(0xff)},
		{Kind: 3, Links: 100, Size: 60, Attrs: 1023, Inline: true, Body: all(0xff)},
		{Kind: 3, Links: 1, Size: 61, Body: counting()},
		{Kind: 2, Links: 2, Size: 512, Attrs: 77, Body: counting()},
		{Kind: 1, Links: 7, Size: 256, Attrs: 256, Body: all(0x80)},
	}
}

// numbers: numbers that an inode may have.
func numbers() []int {
	return []int{0, 1, 2, 5, 6, 127, 128, 255, 256, 257, 1023, 1024, 65535, 65536, 0x12345, 1 << 19, 1<<20 - 1, 1 << 20}
}

// others: numbers that no inode has.
func others() []int {
	return []int{
		math.MinInt, math.MinInt + 1, math.MinInt + 5, math.MinInt + 1<<20, -1 << 32, -1<<32 + 5, -1 << 31, -1<<31 + 5, -1 << 20, -6, -5, -2, -1,
		1<<20 + 1, 1<<20 + 2, 1<<20 + 5, 1 << 21, 1 << 24, 1<<24 + 5, 1<<31 - 1, 1 << 31, 1<<32 - 1, 1 << 32, 1<<32 + 1, 1<<32 + 5, 1<<32 + 1<<20, 1 << 62, math.MaxInt - 1<<20, math.MaxInt - 1, math.MaxInt,
	}
}

// anyOf: one of l.
func anyOf(r *rand.Rand, l []int) int { return l[r.Intn(len(l))] }

// anyInode: one that may be.
func anyInode(r *rand.Rand) api.Inode {
	x := api.Inode{Kind: 1 + r.Intn(3), Links: r.Intn(101), Size: r.Intn(65537), Attrs: r.Intn(1024), Body: make([]byte, 60)}
	if r.Intn(2) == 0 {
		r.Read(x.Body)
	} else {
		r.Read(x.Body[:r.Intn(61)])
	}
	if x.Kind != 2 && r.Intn(2) == 0 {
		x.Size, x.Inline = r.Intn(61), true
	}
	if r.Intn(4) == 0 {
		x.Links, x.Size, x.Attrs = anyOf(r, []int{0, 1, 100}), anyOf(r, []int{0, 1, 59, 60}), anyOf(r, []int{0, 1, 1023})
	}
	return x
}

// anyAtAll: one that may be, of which some fields became anything.
func anyAtAll(r *rand.Rand) api.Inode {
	x := anyInode(r)
	for range r.Intn(3) {
		switch r.Intn(6) {
		case 0:
			x.Kind = anyOf(r, kinds())
		case 1:
			x.Links = anyOf(r, links())
		case 2:
			x.Size = anyOf(r, sizes())
		case 3:
			x.Attrs = anyOf(r, attrs())
		case 4:
			x.Inline = !x.Inline
		case 5:
			x.Body = make([]byte, anyOf(r, []int{0, 1, 59, 60, 61, 128, 300}))
		}
	}
	if r.Intn(30) == 0 {
		return api.Inode{}
	}
	return x
}

// kinds, links, sizes and attrs: what may be, what is just beyond, and what has the lowest bytes of what may be.

func kinds() []int {
	return []int{-1, 0, 1, 2, 3, 4, 255, 256, 257, 258, 259, 1<<32 + 1, -255, math.MinInt, math.MinInt + 1, math.MaxInt}
}

func links() []int {
	return []int{-1, 0, 1, 2, 99, 100, 101, 127, 128, 256, 257, 65535, 65536, 65537, 1<<32 + 1, -65535, math.MinInt, math.MinInt + 1, math.MaxInt}
}

func sizes() []int {
	return []int{-1, 0, 1, 59, 60, 61, 62, 255, 256, 65535, 65536, 65537, 1 << 31, 1<<32 - 1, 1 << 32, 1<<32 + 3, 3 - 1<<32, math.MinInt, math.MinInt + 3, math.MaxInt}
}

func attrs() []int {
	return []int{-1, 0, 1, 255, 256, 1022, 1023, 1024, 1025, 1 << 16, 1 << 31, 1<<32 - 1, 1 << 32, 1<<32 + 1, 1 - 1<<32, math.MinInt, math.MinInt + 1, math.MaxInt}
}

// bodies: Bodies of all lengths that matter.
func bodies() [][]byte {
	return [][]byte{nil, {}, {1}, counting()[:59], counting(), make([]byte, 60), append(counting(), 61), make([]byte, 61), make([]byte, 128)}
}
