package inode

import (
	"bytes"
	"encoding/binary"
	"encoding/hex"
	"math/rand"
	"testing"

	"undercroft/api"
)

// P9.1: these inodes have these bytes.

func TestTheseBytes(t *testing.T) {
	noughts := hex.EncodeToString(make([]byte, 60))
	for _, c := range []struct {
		x                 api.Inode
		number            int
		ahead, body, last string
	}{
		{example(), 5, "010101000300000000000000", "616263" + noughts[6:], "5c011919"},
		{api.Inode{Kind: 2, Links: 2, Size: 512, Attrs: 77, Body: counting()}, 0, "02000200000200004d000000", hex.EncodeToString(counting()), "bfb8fc3f"},
		{api.Inode{Kind: 3, Links: 100, Size: 65536, Attrs: 1023, Body: all(0xff)}, 1 << 20, "0300640000000100ff030000", hex.EncodeToString(all(0xff)), "a8d1357b"},
		{api.Inode{Kind: 1, Body: make([]byte, 60)}, 1, "010000000000000000000000", noughts, "46bfa215"},
	} {
		want, err := hex.DecodeString(c.ahead + c.body + noughts[:104] + c.last)
		if err != nil || len(want) != 128 {
			t.Fatal(len(want), err)
		}
		if b := encoded(t, c.x, c.number); !bytes.Equal(b, want) {
			t.Errorf("Encode(%+v, %d):\n%x, want\n%x", c.x, c.number, b, want)
		}
		wantRead(t, "these bytes", want, c.number, c.x)
		wantUnread(t, "another number", want, 88, api.ErrClean)
	}
}

// P9.1: the document's other examples.

func TestExamples(t *testing.T) {
	x := example()
	b := encoded(t, x, 5)
	wantRead(t, "the example", b, 5, x)
	wantUnread(t, "number 6", b, 6, api.ErrClean)
	x.Size = 61
	wantRefused(t, x, 5)
	if err := Check(x); err != api.ErrArg {
		t.Errorf("Check of Size 61, Inline: error %d, want %d", err, api.ErrArg)
	}
	wantRead(t, "128 bytes 0", make([]byte, 128), 5, api.Inode{})
}

// P9.1: one field at its edges, the others being right.

func TestOneFieldAtItsEdges(t *testing.T) {
	x := api.Inode{Kind: 1, Links: 1, Size: 3, Attrs: 9, Body: text("abc")}
	edge := func(what string, may bool, y api.Inode) {
		t.Helper()
		wanted := api.ErrArg
		if may {
			wanted = api.OK
		}
		if err := Check(y); err != wanted {
			t.Errorf("%s: Check: error %d, want %d", what, err, wanted)
		}
		if b, err := Encode(y, 5); err != wanted || may != (len(b) == 128) || !may && len(b) != 0 {
			t.Errorf("%s: Encode: %d bytes, error %d, want error %d", what, len(b), err, wanted)
		} else if may {
			wantRead(t, what, b, 5, y)
		}
	}
	for kind, may := range map[int]bool{-1: false, 0: false, 1: true, 2: true, 3: true, 4: false} {
		y := x
		y.Kind = kind
		edge("Kind", may, y)
		y.Inline = true
		edge("Kind, Inline", may && kind != 2, y)
	}
	for links, may := range map[int]bool{-1: false, 0: true, 100: true, 101: false} {
		y := x
		y.Links = links
		edge("Links", may, y)
	}
	for size, may := range map[int]bool{-1: false, 0: true, 60: true, 61: true, 65536: true, 65537: false} {
		y := x
		y.Size = size
		edge("Size", may, y)
		y.Inline = true
		edge("Size, Inline", may && size <= 60, y)
	}
	for attrs, may := range map[int]bool{-1: false, 0: true, 1023: true, 1024: false} {
		y := x
		y.Attrs = attrs
		edge("Attrs", may, y)
	}
	for length, may := range map[int]bool{0: false, 59: false, 60: true, 61: false} {
		y := x
		y.Body = make([]byte, length)
		edge("Body", may, y)
	}
}

// P9.1: all fields at their edges and beyond, each with each.

func TestAllFieldsAtTheirEdges(t *testing.T) {
	for _, kind := range kinds()[:9] {
		for _, links := range []int{-1, 0, 1, 100, 101, 65536} {
			for _, size := range []int{-1, 0, 59, 60, 61, 65536, 65537, 1 << 32} {
				for _, attrs := range []int{-1, 0, 1, 1023, 1024, 1 << 32} {
					for _, body := range [][]byte{nil, counting()[:59], counting(), make([]byte, 60), make([]byte, 61)} {
						x := api.Inode{Kind: kind, Links: links, Size: size, Attrs: attrs, Body: body}
						wantCheck(t, x)
						wantEncode(t, x, 5)
						x.Inline = true
						wantCheck(t, x)
						wantEncode(t, x, 5)
					}
				}
			}
		}
	}
}

// Numbers of which only the lowest bytes would be stored are refused, never cut.
func TestFieldsFarBeyond(t *testing.T) {
	for _, was := range few() {
		for _, v := range kinds() {
			x := was
			x.Kind = v
			wantCheck(t, x)
			wantEncode(t, x, 5)
		}
		for _, v := range links() {
			x := was
			x.Links = v
			wantCheck(t, x)
			wantEncode(t, x, 5)
		}
		for _, v := range sizes() {
			x := was
			x.Size = v
			wantCheck(t, x)
			wantEncode(t, x, 5)
		}
		for _, v := range attrs() {
			x := was
			x.Attrs = v
			wantCheck(t, x)
			wantEncode(t, x, 5)
		}
		for _, v := range bodies() {
			x := was
			x.Body = v
			wantCheck(t, x)
			wantEncode(t, x, 5)
		}
	}
}

// P9.1: no inode.

func TestNoInode(t *testing.T) {
	for _, body := range [][]byte{nil, {}, make([]byte, 0, 60), counting()[:0]} {
		x := api.Inode{Body: body}
		for _, number := range numbers() {
			if b := encoded(t, x, number); !bytes.Equal(b, make([]byte, 128)) {
				t.Errorf("Encode of no inode, %d: %x", number, b)
			}
		}
		for _, number := range others() {
			wantRefused(t, x, number)
		}
		// It isn't one that may be: only Encode and Decode take it.
		if err := Check(x); err != api.ErrArg {
			t.Errorf("Check of no inode: error %d, want %d", err, api.ErrArg)
		}
	}
	for _, number := range numbers() {
		wantRead(t, "128 bytes 0", make([]byte, 128), number, api.Inode{})
	}
	for _, number := range others() {
		wantUnread(t, "128 bytes 0", make([]byte, 128), number, api.ErrArg)
	}
}

// An inode of which one field alone isn't zero is neither no inode nor one that may be.
func TestNotQuiteNoInode(t *testing.T) {
	l := []api.Inode{{Inline: true}, {Body: make([]byte, 60)}, {Body: make([]byte, 1)}, {Body: counting()}, {Body: make([]byte, 128)}}
	for _, v := range []int{-1, 1, 2, 3, 60, 100, 256, 1 << 16, 1 << 32} {
		l = append(l, api.Inode{Kind: v}, api.Inode{Links: v}, api.Inode{Size: v}, api.Inode{Attrs: v})
	}
	for _, x := range l {
		wantRefused(t, x, 5)
		if err := Check(x); err != api.ErrArg {
			t.Errorf("Check(%+v): error %d, want %d", x, err, api.ErrArg)
		}
		b := plainBytes(x, 5)
		if b[0] != 1 && b[0] != 2 && b[0] != 3 {
			wantUnread(t, "sealed", b, 5, api.ErrClean)
		} else {
			wantDecode(t, "sealed", b, 5)
		}
	}
}

// P9.1: numbers.

func TestNumbers(t *testing.T) {
	for _, x := range few() {
		for _, number := range numbers() {
			wantEncode(t, x, number)
			wantRead(t, "the document's bytes", plainBytes(x, number), number, x)
		}
		for _, number := range others() {
			wantRefused(t, x, number)
			// The lowest bytes of the number, and so the sum, may be those of one that can be.
			wantUnread(t, "a number that can't be", plainBytes(x, number), number, api.ErrArg)
		}
	}
}

// A number that can't be is told first, whatever the bytes are.
func TestNumbersAheadOfBytes(t *testing.T) {
	for _, number := range others() {
		for _, n := range []int{0, 1, 127, 128, 129, 1 << 16} {
			wantUnread(t, "noughts", make([]byte, n), number, api.ErrArg)
			wantUnread(t, "all ones", bytes.Repeat([]byte{255}, n), number, api.ErrArg)
		}
		wantUnread(t, "nil", nil, number, api.ErrArg)
		wantRefused(t, api.Inode{Kind: 9}, number)
	}
}

// P9.1: Decode of other lengths.

func TestDecodeOfOtherLengths(t *testing.T) {
	for _, x := range few() {
		b := plainBytes(x, 5)
		for n := range 128 {
			wantUnread(t, "cut short", b[:n], 5, api.ErrClean)
			wantUnread(t, "cut short, without room", b[:n:n], 5, api.ErrClean)
			wantUnread(t, "without its beginning", b[128-n:], 5, api.ErrClean)
		}
		for _, more := range [][]byte{{0}, {1}, make([]byte, 2), make([]byte, 128), b} {
			wantUnread(t, "with more behind", append(bytes.Clone(b), more...), 5, api.ErrClean)
			wantUnread(t, "with more ahead", append(bytes.Clone(more), b...), 5, api.ErrClean)
		}
		room := append(bytes.Clone(b), "in the room behind"...)
		wantRead(t, "with room", room[:128], 5, x)
	}
	for _, n := range []int{0, 1, 4, 60, 72, 124, 127, 129, 256, 1 << 16} {
		wantUnread(t, "noughts", make([]byte, n), 5, api.ErrClean)
		wantUnread(t, "all ones", bytes.Repeat([]byte{255}, n), 5, api.ErrClean)
	}
	wantUnread(t, "nil", nil, 5, api.ErrClean)
}

// P9.1: Decode of bytes whose sum is right.

// changed: the bytes of x, changed by f, with their sum put right.
func changed(x api.Inode, number int, f func(b []byte)) []byte {
	b := plainBytes(x, number)
	f(b)
	return sealed(b, number)
}

func TestDecodeOfSealedInodesThatMayNotBe(t *testing.T) {
	put16, put32 := binary.LittleEndian.PutUint16, binary.LittleEndian.PutUint32
	for _, x := range few() {
		wantRead(t, "unchanged", changed(x, 5, func([]byte) {}), 5, x)
		for v := range 256 {
			wantDecode(t, "another Kind", changed(x, 5, func(b []byte) { b[0] = byte(v) }), 5)
			wantDecode(t, "another Inline", changed(x, 5, func(b []byte) { b[1] = byte(v) }), 5)
		}
		for v := range 1 << 16 {
			if v < 300 || v%256 <= 1 || v > 65500 {
				wantDecode(t, "other Links", changed(x, 5, func(b []byte) { put16(b[2:], uint16(v)) }), 5)
			}
		}
		for _, v := range sizes() {
			wantDecode(t, "another Size", changed(x, 5, func(b []byte) { put32(b[4:], uint32(v)) }), 5)
		}
		for _, v := range attrs() {
			wantDecode(t, "another Attrs", changed(x, 5, func(b []byte) { put32(b[8:], uint32(v)) }), 5)
		}
		for bit := range 32 {
			wantDecode(t, "a bit of Size", changed(x, 5, func(b []byte) { b[4+bit/8] ^= 1 << (bit % 8) }), 5)
			wantDecode(t, "a bit of Attrs", changed(x, 5, func(b []byte) { b[8+bit/8] ^= 1 << (bit % 8) }), 5)
		}
	}
}

// What is so refused, named one by one.
func TestDecodeRefusesThese(t *testing.T) {
	refused := func(what string, f func(b []byte)) {
		t.Helper()
		wantUnread(t, what, changed(example(), 5, f), 5, api.ErrClean)
	}
	for _, kind := range []byte{0, 2, 4, 255} { // 2: a Folder that is Inline
		refused("Kind", func(b []byte) { b[0] = kind })
	}
	for _, inline := range []byte{2, 3, 128, 255} {
		refused("Inline", func(b []byte) { b[1] = inline })
	}
	refused("Links 101", func(b []byte) { b[2] = 101 })
	refused("Links 256", func(b []byte) { b[3] = 1 })
	refused("Size 61", func(b []byte) { b[4] = 61 })
	refused("Size 65537", func(b []byte) { b[1], b[4], b[6] = 0, 1, 1 })
	refused("Size 2^24", func(b []byte) { b[1], b[4], b[7] = 0, 0, 1 })
	refused("Attrs 1024", func(b []byte) { b[9] = 4 })
	refused("Attrs 2^16", func(b []byte) { b[10] = 1 })
	refused("Attrs 2^24", func(b []byte) { b[11] = 1 })
}

func TestDecodeOfUnusedBytes(t *testing.T) {
	for _, x := range few() {
		for at := 72; at < 124; at++ {
			for _, v := range []byte{1, 0x80, 0xff} {
				wantUnread(t, "an unused byte", changed(x, 5, func(b []byte) { b[at] = v }), 5, api.ErrClean)
			}
		}
		wantUnread(t, "a Body of 61", changed(x, 5, func(b []byte) { copy(b[12:], bytes.Repeat([]byte{7}, 61)) }), 5, api.ErrClean)
	}
}

// No inode has no sum: its bytes with one are none.
func TestDecodeOfSealedNoughts(t *testing.T) {
	for _, number := range numbers() {
		wantDecode(t, "sealed noughts", sealed(make([]byte, 128), number), number)
		b := make([]byte, 128)
		b[127] = 1
		wantUnread(t, "a sum alone", b, number, api.ErrClean)
	}
}

func TestDecodeOfOtherSums(t *testing.T) {
	for _, x := range few() {
		for _, number := range []int{0, 5, 1 << 20} {
			b := plainBytes(x, number)
			sum := binary.LittleEndian.Uint32(b[124:])
			alone := append(b[:124:124], 0, 0, 0, 0)
			behind := binary.LittleEndian.AppendUint32(bytes.Clone(b[:124]), uint32(number))
			for _, other := range []uint32{
				0, 1, ^sum, sum + 1, sum - 1, sum<<8 | sum>>24, sum>>16 | sum<<16,
				binary.LittleEndian.Uint32(sealed(b, number+1)[124:]),
				plainSum(alone, number),                              // also of the place where it stands
				plainSum(behind, 0),                                  // the number behind
				crcOf(b[:124]),                                       // no number at all
				crcOf(append([]byte{byte(number)}, b[:124]...)),      // a number in 1 byte
				crcOf(append(make([]byte, 8), b[:124]...)),           // a number in 8 bytes
				crcOf(append([]byte{0, 0, 0, 9, 9}, b[:124]...)),     // another one
				crcOf(append(bytes.Clone(b[:124]), behind[124:]...)), // the number behind it alone
			} {
				c := bytes.Clone(b)
				binary.LittleEndian.PutUint32(c[124:], other)
				if other != sum {
					wantUnread(t, "another sum", c, number, api.ErrClean)
				}
			}
			binary.BigEndian.PutUint32(b[124:], sum)
			wantUnread(t, "the sum's bytes the other way round", b, number, api.ErrClean)
		}
	}
}

// P9.1: anything at all.

func TestAnyInode(t *testing.T) {
	r := rand.New(rand.NewSource(91))
	for range 30000 {
		x := anyAtAll(r)
		wantCheck(t, x)
		number := r.Intn(1<<20 + 1)
		if r.Intn(4) == 0 {
			number = anyOf(r, append(numbers(), others()...))
		}
		wantEncode(t, x, number)
		wantDecode(t, "sealed", plainBytes(x, number), number)
	}
}

func TestAnyBytes(t *testing.T) {
	r := rand.New(rand.NewSource(92))
	for range 30000 {
		number := anyOf(r, append(numbers(), r.Intn(1<<20+1), int(r.Uint64())))
		b := plainBytes(anyInode(r), number)
		for range r.Intn(4) {
			b[r.Intn(16)] = byte(r.Intn(256) >> r.Intn(9))
		}
		if r.Intn(4) == 0 {
			b[r.Intn(128)] = byte(r.Intn(256))
		}
		if r.Intn(4) > 0 {
			b = sealed(b, number)
		}
		if r.Intn(20) == 0 {
			b = b[:r.Intn(len(b)+1)]
		}
		wantDecode(t, "any bytes", b, number)
	}
	for range 3000 {
		b := make([]byte, []int{0, 1, 127, 128, 129, 256}[r.Intn(6)])
		r.Read(b)
		wantDecode(t, "noise", b, r.Intn(1<<20+1))
	}
}
