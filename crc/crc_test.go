package crc

import (
	"bytes"
	"encoding/binary"
	"hash/crc32"
	"math"
	"testing"
)

// noise: n bytes that look like any, and are the same each time.
func noise(n int, seed uint32) []byte {
	b := make([]byte, n)
	for i := range b {
		seed = seed*1664525 + 1013904223
		b[i] = byte(seed >> 24)
	}
	return b
}

// plainSum: the sum bit by bit, in the document's words.
func plainSum(b []byte) uint32 {
	word := uint32(0xffffffff)
	for _, c := range b {
		word ^= uint32(c)
		for range 8 {
			fell := word&1 == 1
			word >>= 1
			if fell {
				word ^= 0x82f63b78
			}
		}
	}
	return ^word
}

// P1.1: Sum and More.

func TestSumExamples(t *testing.T) {
	for text, want := range map[string]uint32{
		"":                         0,
		"123456789":                0xe3069283,
		string(make([]byte, 32)):   0x8a9136aa,
		"\x00":                     0x527d5351,
		"a":                        0xc1d04330,
		"\xff\xff\xff\xff":         0xffffffff,
		string(make([]byte, 1<<9)): crc32.Checksum(make([]byte, 1<<9), crc32.MakeTable(crc32.Castagnoli)),
	} {
		if s := Sum([]byte(text)); s != want {
			t.Errorf("Sum(%q) = %08x, want %08x", text, s, want)
		}
	}
	if Sum(nil) != 0 {
		t.Error("Sum(nil) isn't 0")
	}
}

func TestSumOfEachByte(t *testing.T) {
	for c := range 256 {
		b := []byte{byte(c)}
		if s := Sum(b); s != plainSum(b) {
			t.Errorf("Sum of byte %d = %08x, want %08x", c, s, plainSum(b))
		}
	}
}

func TestSumOfManyLengths(t *testing.T) {
	table := crc32.MakeTable(crc32.Castagnoli)
	for n := range 600 {
		b := noise(n, uint32(n))
		s := Sum(b)
		if s != plainSum(b) || s != crc32.Checksum(b, table) {
			t.Errorf("Sum of %d bytes = %08x, want %08x", n, s, plainSum(b))
		}
	}
	long := noise(1<<20, 7)
	if Sum(long) != crc32.Checksum(long, table) {
		t.Error("Sum of a long list")
	}
}

func TestMoreOfAnySum(t *testing.T) {
	table := crc32.MakeTable(crc32.Castagnoli)
	for _, sum := range []uint32{0, 1, 0x80000000, 0x7fffffff, 0xe3069283, 0xffffffff} {
		for n := range 40 {
			b := noise(n, sum)
			if s := More(sum, b); s != crc32.Update(sum, table, b) {
				t.Errorf("More(%08x, %d bytes) = %08x, want %08x", sum, n, s, crc32.Update(sum, table, b))
			}
		}
	}
}

// P1.1: Bytes and Number.

func TestBytes(t *testing.T) {
	for _, v := range []uint64{0, 1, 255, 256, 258, 0x0807060504030201, 1 << 63, math.MaxUint64} {
		var all [8]byte
		binary.LittleEndian.PutUint64(all[:], v)
		for n, want := range map[int]int{math.MinInt: 0, -9: 0, -8: 0, -1: 0, 0: 0, 1: 1, 2: 2, 3: 3, 4: 4, 5: 5, 6: 6, 7: 7, 8: 8, 9: 8, 10: 8, 1 << 30: 8, math.MaxInt: 8} {
			if b := Bytes(v, n); !bytes.Equal(b, all[:want]) {
				t.Errorf("Bytes(%x, %d) = %x, want %x", v, n, b, all[:want])
			}
		}
	}
}

func TestBytesExamples(t *testing.T) {
	if b := Bytes(258, 2); !bytes.Equal(b, []byte{2, 1}) {
		t.Error("Bytes(258, 2) =", b)
	}
	if b := Bytes(258, 1); !bytes.Equal(b, []byte{2}) {
		t.Error("Bytes(258, 1) =", b)
	}
}

func TestNumber(t *testing.T) {
	for text, want := range map[string]uint64{
		"":                                 0,
		"\x00":                             0,
		"\xff":                             255,
		"\x02\x01":                         258,
		"\x02\x01\x00":                     258,
		"\x00\x00\x00\x80":                 1 << 31,
		"\x01\x02\x03\x04\x05\x06\x07":     0x07060504030201,
		"\x01\x02\x03\x04\x05\x06\x07\x08": 0x0807060504030201,
		"\x00\x00\x00\x00\x00\x00\x00\x80": 1 << 63,
		"\xff\xff\xff\xff\xff\xff\xff\xff": math.MaxUint64,
	} {
		if v, ok := Number([]byte(text)); v != want || !ok {
			t.Errorf("Number(%x) = %x, %v, want %x", text, v, ok, want)
		}
	}
	if v, ok := Number(nil); v != 0 || !ok {
		t.Error("Number(nil) =", v, ok)
	}
}

func TestNumberOfTooMany(t *testing.T) {
	for _, n := range []int{9, 10, 16, 256, 1 << 16} {
		for _, b := range [][]byte{make([]byte, n), noise(n, 3)} {
			if v, ok := Number(b); v != 0 || ok {
				t.Errorf("Number of %d bytes = %x, %v, want 0, false", n, v, ok)
			}
		}
	}
}

func TestNumberOfBytes(t *testing.T) {
	for n := range 9 {
		b := noise(n, uint32(n)+1)
		v, ok := Number(b)
		if !ok || !bytes.Equal(Bytes(v, n), b) {
			t.Errorf("Bytes of Number(%x) = %x, %v", b, Bytes(v, n), ok)
		}
	}
}

// P1.2: parts one behind the other, and the exclusive or of three.

func TestMoreOfParts(t *testing.T) {
	for _, n := range []int{0, 1, 2, 9, 64, 256, 300} {
		b := noise(n, 11)
		whole := Sum(b)
		for cut := range n + 1 {
			if s := More(Sum(b[:cut]), b[cut:]); s != whole {
				t.Errorf("%d bytes cut at %d: %08x, want %08x", n, cut, s, whole)
			}
		}
	}
}

func TestMoreOfThreeParts(t *testing.T) {
	b := noise(24, 12)
	for one := range len(b) + 1 {
		for two := one; two <= len(b); two++ {
			if s := More(More(Sum(b[:one]), b[one:two]), b[two:]); s != Sum(b) {
				t.Errorf("cut at %d and %d: %08x, want %08x", one, two, s, Sum(b))
			}
		}
	}
}

func TestMoreOfNothing(t *testing.T) {
	for _, sum := range []uint32{0, 1, 0xe3069283, 0xffffffff} {
		if More(sum, nil) != sum || More(sum, []byte{}) != sum {
			t.Errorf("More(%08x, nothing) is another sum", sum)
		}
	}
}

func TestExclusiveOrOfThree(t *testing.T) {
	for n := range 130 {
		a, b, c := noise(n, 21), noise(n, 22), noise(n, 23)
		all := make([]byte, n)
		for i := range all {
			all[i] = a[i] ^ b[i] ^ c[i]
		}
		if Sum(all) != Sum(a)^Sum(b)^Sum(c) {
			t.Errorf("%d bytes: %08x, want %08x", n, Sum(all), Sum(a)^Sum(b)^Sum(c))
		}
	}
}

// P1.3: bursts.

// turned: b with the ones of pattern turned, from bit at on; nil where one of them lies beyond b.
func turned(b []byte, at int, pattern uint32) []byte {
	out := bytes.Clone(b)
	for k := range 32 {
		if pattern>>k&1 == 0 {
			continue
		}
		if at+k >= 8*len(b) {
			return nil
		}
		out[(at+k)/8] ^= 1 << ((at + k) % 8)
	}
	return out
}

func patterns() []uint32 {
	l := []uint32{1, 3, 0x80000001, 0xffffffff, 0x82f63b78, 0x05ec76f1, 0x1edc6f41, 0xaaaaaaab}
	for k := 1; k < 32; k++ {
		l = append(l, 1<<k|1)
	}
	for seed := range uint32(24) {
		l = append(l, binary.LittleEndian.Uint32(noise(4, seed))|1)
	}
	return l
}

func TestBurstsHaveOtherSums(t *testing.T) {
	for _, n := range []int{1, 2, 4, 5, 33, 256} {
		b := noise(n, 31)
		sum := Sum(b)
		for at := range 8 * n {
			for _, p := range patterns() {
				if c := turned(b, at, p); c != nil && Sum(c) == sum {
					t.Errorf("%d bytes, %08x turned from bit %d on: the same sum", n, p, at)
				}
			}
		}
	}
}

// free: is no exclusive or of some of these words (but of none) nought?
func free(words []uint32) bool {
	var lead [32]uint32
	for _, w := range words {
		for k := 31; k >= 0 && w != 0; k-- {
			if w>>k&1 == 0 {
				continue
			}
			if lead[k] == 0 {
				lead[k] = w
				break
			}
			w ^= lead[k]
		}
		if w == 0 {
			return false
		}
	}
	return true
}

// TestAllBursts: with P1.2 what a burst turns in a sum is the exclusive or of what its bits turn one by one, so where these are free of one another all bursts there are told.
func TestAllBursts(t *testing.T) {
	for _, n := range []int{4, 5, 9, 64, 256} {
		b := noise(n, 41)
		turns := make([]uint32, 8*n)
		for i := range turns {
			turns[i] = Sum(turned(b, i, 1)) ^ Sum(b)
		}
		for at := range len(turns) - 31 {
			if !free(turns[at : at+32]) {
				t.Errorf("%d bytes: a burst from bit %d on has the same sum", n, at)
			}
		}
	}
}

// P1.4: what is handed in, its spare room too, and what is answered.

func TestArgumentsStay(t *testing.T) {
	for _, n := range []int{0, 1, 8, 9, 256} {
		room := noise(n+16, 51)
		ahead := bytes.Clone(room)
		b := room[:n]
		Sum(b)
		More(1, b)
		Number(b)
		if !bytes.Equal(room, ahead) {
			t.Errorf("%d bytes: what was handed in is changed", n)
		}
	}
}

func TestAnswersAreNew(t *testing.T) {
	for _, n := range []int{-1, 0, 1, 4, 8, 9} {
		one, two := Bytes(0x0807060504030201, n), Bytes(0x0807060504030201, n)
		kept := bytes.Clone(two)
		whole := one[:cap(one)]
		for i := range whole {
			whole[i] = 0xee
		}
		if !bytes.Equal(two, kept) || !bytes.Equal(Bytes(0x0807060504030201, n), kept) {
			t.Errorf("n %d: answers share memory", n)
		}
	}
}

// P1: nothing is kept from call to call.

func TestAskedAgain(t *testing.T) {
	b := noise(100, 61)
	sum, more := Sum(b), More(5, b)
	Sum(noise(77, 62))
	More(9, noise(5, 63))
	if Sum(b) != sum || More(5, b) != more {
		t.Error("asked again, another answer")
	}
	b[50] ^= 1
	if Sum(b) == sum {
		t.Error("an argument was kept")
	}
}
