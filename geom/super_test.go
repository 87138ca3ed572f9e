package geom

import (
	"bytes"
	"encoding/binary"
	"math"
	"math/rand"
	"testing"

	"undercroft/api"
)

// turned: b with these bits turned, from bit at on (1 being the lowest bit's worth of its byte).
func turned(b []byte, at int, bits uint32) []byte {
	c := bytes.Clone(b)
	for k := range 32 {
		if bits>>k&1 == 1 && at+k < 8*len(c) {
			c[(at+k)/8] ^= 1 << ((at + k) % 8)
		}
	}
	return c
}

// few: geometries of all kinds, for tests that are long for each.
func few() []api.Geom {
	var l []api.Geom
	for _, blocks := range []int{128, 129, 132, 255, 256, 511, 639, 1000, 1023, 1024} {
		l = append(l, plainLayout(blocks))
	}
	return l
}

// P6.3: what Encode tells Decode reads.

func TestDecodeOfEachSuperblock(t *testing.T) {
	for _, g := range layouts() {
		wantDecoded(t, "what Encode tells", encoded(t, g), g)
		wantDecoded(t, "the document's bytes", plainSuper(g), g)
	}
}

// P6.3: turned bits.

func TestEveryBitTurned(t *testing.T) {
	for _, g := range few() {
		b := encoded(t, g)
		for at := range 8 * len(b) {
			wantNone(t, "one bit turned", turned(b, at, 1))
		}
	}
}

func TestBitsWithin32Turned(t *testing.T) {
	r := rand.New(rand.NewSource(61))
	for _, g := range few() {
		b := encoded(t, g)
		for at := range 8 * len(b) { // from the block's beginning over its middle to its end
			for _, bits := range []uint32{1<<32 - 1, 1<<31 | 1, 3, 0xff, 0x05ec76f1, 0x82f63b79, r.Uint32() | 1, r.Uint32() | 1, r.Uint32()&r.Uint32()&r.Uint32() | 1} {
				wantNone(t, "bits turned", turned(b, at, bits))
			}
		}
	}
}

func TestBitsOfEachSuperblockTurned(t *testing.T) {
	r := rand.New(rand.NewSource(62))
	for _, g := range layouts() {
		b := encoded(t, g)
		for range 60 {
			wantNone(t, "bits turned", turned(b, r.Intn(8*len(b)), r.Uint32()|1))
			wantNone(t, "bits turned of what is said", turned(b, r.Intn(8*44), r.Uint32()|1))
		}
	}
}

// Four bytes side by side become any others: noughts, ones, the mark, those of another superblock.
func TestFourOtherBytes(t *testing.T) {
	for _, g := range few() {
		b := encoded(t, g)
		for _, other := range few() {
			o := plainSuper(other)
			for at := 0; at+4 <= len(b); at++ {
				for _, four := range []string{"\x00\x00\x00\x00", "\xff\xff\xff\xff", "UCFT", string(o[at : at+4])} {
					c := bytes.Clone(b)
					copy(c[at:], four)
					if !bytes.Equal(b, c) {
						wantNone(t, "four other bytes", c)
					}
				}
			}
		}
	}
}

// P6.1: Decode of what is no superblock.

func TestDecodeOfOtherLengths(t *testing.T) {
	for _, g := range few() {
		b := encoded(t, g)
		for n := range len(b) {
			wantNone(t, "cut short", b[:n])
			wantNone(t, "cut short, without room", b[:n:n])
		}
		for _, more := range [][]byte{{0}, {1}, {'U'}, make([]byte, 2), make([]byte, 255), make([]byte, 256), b} {
			wantNone(t, "with more behind", append(bytes.Clone(b), more...))
			wantNone(t, "with more ahead", append(bytes.Clone(more), b...))
		}
		room := append(bytes.Clone(b), "in the room behind"...)
		wantDecoded(t, "with room", room[:256], g)
	}
	for _, n := range []int{0, 1, 8, 40, 43, 44, 45, 64, 255, 256, 257, 512, 1 << 16} {
		wantNone(t, "noughts", make([]byte, n))
		wantNone(t, "all ones", bytes.Repeat([]byte{255}, n))
		wantNone(t, "marks", bytes.Repeat([]byte("UCFT"), n/4))
	}
	wantNone(t, "nil", nil)
}

// changed: the superblock of g, changed by f, with its sum put right.
func changed(g api.Geom, f func(b []byte)) []byte {
	b := plainSuper(g)
	f(b)
	again := sealed(b)
	copy(again[44:], b[44:])
	return again
}

func TestDecodeOfOtherMarksAndKinds(t *testing.T) {
	for _, g := range few() {
		for _, mark := range []string{"\x00\x00\x00\x00", "ucft", "UCFU", "VCFT", "TFCU", "ULOG"} {
			wantNone(t, "another mark", changed(g, func(b []byte) { copy(b, mark) }))
		}
		for at := range 4 {
			wantNone(t, "a mark's byte", changed(g, func(b []byte) { b[at] ^= 0x20 }))
		}
		for kind := range 256 {
			if kind != 1 {
				wantNone(t, "another kind", changed(g, func(b []byte) { b[4] = byte(kind) }))
			}
		}
		wantDecoded(t, "unchanged", changed(g, func([]byte) {}), g)
	}
}

func TestDecodeOfUnusedBytes(t *testing.T) {
	for _, g := range few() {
		for _, v := range []byte{1, 0x80, 0xff} {
			for at := 5; at < 8; at++ {
				wantNone(t, "an unused byte behind the kind", changed(g, func(b []byte) { b[at] = v }))
			}
			for at := 44; at < 256; at++ {
				wantNone(t, "an unused byte", changed(g, func(b []byte) { b[at] = v }))
			}
		}
		// A sum at the block's end, or one over more than the 40 bytes, is none.
		wantNone(t, "the sum at the end too", changed(g, func(b []byte) { copy(b[252:], b[40:44]) }))
	}
}

func TestDecodeOfOtherSums(t *testing.T) {
	for _, g := range few() {
		b := plainSuper(g)
		sum := binary.LittleEndian.Uint32(b[40:])
		for _, other := range []uint32{0, 1, math.MaxUint32, ^sum, sum + 1, sum - 1, sum<<8 | sum>>24, sum>>16 | sum<<16} {
			c := bytes.Clone(b)
			binary.LittleEndian.PutUint32(c[40:], other)
			wantNone(t, "another sum", c)
		}
		binary.BigEndian.PutUint32(b[40:], sum)
		wantNone(t, "the sum's bytes the other way round", b)
	}
}

// The sum is right, but the numbers are no geometry.
func TestDecodeOfOtherNumbers(t *testing.T) {
	all := supers()
	for _, g := range few() {
		for part := range 8 {
			is := uint32(*fields(&g)[part])
			others := []uint32{0, 1, 2, 3, 127, 128, 1024, 1025, is - 1, is + 1, is - 4, is + 4, is * 2, is << 8, is << 24, -is, ^is, math.MaxInt32, math.MaxInt32 + 1, math.MaxUint32}
			for bit := range 32 {
				others = append(others, is^1<<bit)
			}
			for _, v := range others {
				b := changed(g, func(b []byte) { binary.LittleEndian.PutUint32(b[8+4*part:], v) })
				if want, ok := all[string(b)]; ok { // Blocks alone may be another, if all else is the same of both
					wantDecoded(t, "another number", b, want)
				} else {
					wantNone(t, "another number", b)
				}
			}
		}
		for part := range 7 { // two numbers the other way round
			b := changed(g, func(b []byte) {
				copy(b[8+4*part:], append(bytes.Clone(b[12+4*part:16+4*part]), b[8+4*part:12+4*part]...))
			})
			if !bytes.Equal(b, plainSuper(g)) {
				wantNone(t, "two numbers the other way round", b)
			}
		}
	}
}

func TestDecodeOfSealedGeometriesThatAreNone(t *testing.T) {
	wantNone(t, "noughts", plainSuper(api.Geom{}))
	for _, blocks := range []int{0, 1, 32, 64, 96, 124, 126, 127, 1025, 1026, 1028, 1056, 2048, 1 << 16, 1 << 20} {
		wantNone(t, "too few or too many blocks", plainSuper(plainLayout(blocks)))
	}
	for _, g := range layouts() {
		x := g
		x.Blocks = g.Blocks + 32 // its Log, LogLen and Data are others
		wantNone(t, "another number of blocks", plainSuper(x))
		x = g
		x.Log, x.Data = g.Log+1, g.Data+1
		wantNone(t, "a block between", plainSuper(x))
		x = g
		x.LogLen, x.Data = g.LogLen-1, g.Data-1
		wantNone(t, "a shorter log", plainSuper(x))
	}
}

func TestDecodeOfAnyBytes(t *testing.T) {
	r := rand.New(rand.NewSource(63))
	all := supers()
	for range 20000 {
		b := plainSuper(plainLayout(128 + r.Intn(897)))
		for range r.Intn(4) {
			b[r.Intn(48)] = byte(r.Intn(256))
		}
		if r.Intn(2) == 0 {
			b = sealed(b)
		}
		if r.Intn(20) == 0 {
			b = b[:r.Intn(len(b)+1)]
		}
		if want, ok := all[string(b)]; ok {
			wantDecoded(t, "any bytes", b, want)
		} else {
			wantNone(t, "any bytes", b)
		}
	}
	for range 2000 {
		b := make([]byte, []int{0, 43, 44, 255, 256, 257, 300}[r.Intn(7)])
		r.Read(b)
		wantNone(t, "noise", b)
	}
}

// P6.4 and P1: new memory, and what is handed in stays.

func TestEncodeAnswersNewMemory(t *testing.T) {
	for _, g := range few() {
		one, two := encoded(t, g), encoded(t, g)
		one = one[:cap(one)] // its spare room is its own too
		for k := range one {
			one[k] ^= 0xff
		}
		if !bytes.Equal(two, plainSuper(g)) {
			t.Errorf("%d blocks: two answers share memory", g.Blocks)
		}
		if again := encoded(t, g); !bytes.Equal(again, plainSuper(g)) {
			t.Errorf("%d blocks: an answer that was changed is told again", g.Blocks)
		}
		wantDecoded(t, "behind the change", two, g)
	}
}

func TestDecodeChangesNothing(t *testing.T) {
	for _, g := range few() {
		whole := append(encoded(t, g), "in the room behind"...)
		for _, n := range []int{0, 255, 256, 257} {
			before := bytes.Clone(whole)
			Decode(whole[:n])
			if !bytes.Equal(whole, before) {
				t.Errorf("Decode of %d bytes changes them or their room", n)
			}
		}
		got, err := Decode(whole[:256])
		clear(whole)
		if got != g || err != api.OK {
			t.Errorf("Decode: %+v, error %d, want %+v", got, err, g)
		}
	}
}
