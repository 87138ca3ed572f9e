package leaf

import (
	"bytes"
	"math/rand"
	"slices"
	"strings"
	"testing"

	"undercroft/api"
)

// samples: the few and any others, all of which fit.
func samples(seed int64, many int) [][]api.Name {
	r := rand.New(rand.NewSource(seed))
	l := few()
	for range many {
		l = append(l, anyFitting(r))
	}
	return l
}

// P11.2: what Encode tells Decode reads.

func TestReadAgain(t *testing.T) {
	for _, l := range samples(1, 20000) {
		wantRead(t, "what Encode tells", encoded(t, l), l)
	}
}

// Each Inode comes back, and each byte of a name.
func TestEachValueIsReadAgain(t *testing.T) {
	for inode := 0; inode <= 1<<20; inode += 37 {
		l := []api.Name{{Name: "a", Inode: inode}, {Name: "b", Inode: 1<<20 - inode}}
		wantRead(t, "what Encode tells", encoded(t, l), l)
	}
	for c := range 256 {
		for _, name := range []string{string([]byte{byte(c)}), "a" + string([]byte{byte(c)}), string([]byte{byte(c)}) + strings.Repeat("z", 31)} {
			if plainMay(name) {
				wantRead(t, "what Encode tells", encoded(t, one(name, 5)), one(name, 5))
			}
		}
	}
}

// Two lists never have the same block.
func TestBlocksTellLists(t *testing.T) {
	met := map[string][]api.Name{}
	for _, l := range samples(2, 20000) {
		b := encoded(t, l)
		if other, ok := met[string(b)]; ok && !slices.Equal(l, other) {
			t.Fatalf("%#v and %#v have the same block", l, other)
		}
		met[string(b)] = l
	}
}

// P11.2: turned bits.

// turned: b with these bits turned, from bit at on (1 being the lowest bit's worth of its byte).
func turned(b []byte, at int, bits uint32) []byte {
	c := bytes.Clone(b)
	for k := range 32 {
		if bits>>k&1 == 1 && at+k < 8*len(c) {
			c[(at+k)/8] ^= 1 << ((at + k) % 8)
		}
	}
	return c
}

func TestEveryBitTurned(t *testing.T) {
	for _, l := range samples(3, 60) {
		b := encoded(t, l)
		for at := range 8 * len(b) {
			wantUnread(t, "one bit turned", turned(b, at, 1))
		}
	}
}

// From the beginning over the middle to the end, across the entries and the sum.
func TestBitsWithin32Turned(t *testing.T) {
	r := rand.New(rand.NewSource(114))
	for _, l := range samples(4, 20) {
		b := encoded(t, l)
		for at := range 8 * len(b) {
			for _, bits := range []uint32{1<<32 - 1, 1<<31 | 1, 3, 0xff, 0x05ec76f1, 0x82f63b79, r.Uint32() | 1, r.Uint32() | 1, r.Uint32()&r.Uint32()&r.Uint32() | 1} {
				wantUnread(t, "bits turned", turned(b, at, bits))
			}
		}
	}
}

// Two bits turned that are at most 32 bits apart: all of them.
func TestTwoBitsTurned(t *testing.T) {
	for _, l := range [][]api.Name{nil, one("a", 5), sized(248)} {
		b := encoded(t, l)
		for at := range 8 * len(b) {
			for k := 1; k < 32 && at+k < 8*len(b); k++ {
				wantUnread(t, "two bits turned", turned(b, at, 1<<k|1))
			}
		}
	}
}

// Four bytes side by side become any others: noughts, ones, those of another block.
func TestFourOtherBytes(t *testing.T) {
	for _, l := range samples(5, 10) {
		b := encoded(t, l)
		for _, other := range few() {
			o := plainBlock(other)
			for at := 0; at+4 <= len(b); at++ {
				for _, four := range []string{"\x00\x00\x00\x00", "\xff\xff\xff\xff", string(o[at : at+4])} {
					c := bytes.Clone(b)
					copy(c[at:], four)
					if !bytes.Equal(b, c) {
						wantUnread(t, "four other bytes", c)
					}
				}
			}
		}
	}
}

// P11.2: a right list without one of its entries is right, and smaller.

// wantSmaller: l without each of its entries is right, and smaller by that entry; and it fits, if l does.
func wantSmaller(t *testing.T, l []api.Name) {
	t.Helper()
	size, err := Size(l)
	if err != api.OK {
		t.Fatalf("Size(%#v): error %d", l, err)
	}
	for k, e := range l {
		less := without(l, k)
		if got, err := Size(less); err != api.OK || got >= size || got != size-5-len(e.Name) {
			t.Errorf("Size(%#v), which is without %q: %d, error %d, want %d", less, e.Name, got, err, size-5-len(e.Name))
		}
		if size <= 248 {
			wantRead(t, "without an entry", encoded(t, less), less)
		}
	}
}

func TestWithoutAnEntry(t *testing.T) {
	for _, l := range samples(6, 1500) {
		wantSmaller(t, l)
	}
	r := rand.New(rand.NewSource(115))
	for range 300 {
		wantSmaller(t, anyRight(r, 80))
	}
}

// One by one, from the front, the middle and the end, down to no entries.
func TestWithoutOneEntryAfterAnother(t *testing.T) {
	for _, l := range append(samples(7, 30), long(7, 32), sized(249)) {
		for _, which := range []func(n int) int{
			func(n int) int { return 0 },
			func(n int) int { return n / 2 },
			func(n int) int { return n - 1 },
		} {
			for rest := l; len(rest) > 0; rest = without(rest, which(len(rest))) {
				wantSmaller(t, rest)
			}
		}
	}
	wantTaken(t, "7 names of 32 bytes without one", without(long(7, 32), 3), 222)
}

// P11.3 and P1: what is handed in is not changed, and an answer is new memory.

// withRoom: l in the midst of more entries, which stand ahead of it and in its spare room.
func withRoom(l []api.Name) (whole, part []api.Name) {
	whole = append(append(named("ahead", "also ahead"), l...), named("behind", "also behind")...)
	return whole, whole[2 : 2+len(l)]
}

// withSpare: b in the midst of more bytes, which stand ahead of it and in its spare room.
func withSpare(b []byte) (whole, part []byte) {
	whole = bytes.Repeat([]byte{0x5a}, len(b)+32)
	copy(whole[8:], b)
	return whole, whole[8 : 8+len(b)]
}

// scribble: turns all bits of b, its spare room's too.
func scribble(b []byte) {
	b = b[:cap(b)]
	for k := range b {
		b[k] = ^b[k]
	}
}

// scrawl: changes all entries of l, its spare room's too.
func scrawl(l []api.Name) {
	l = l[:cap(l)]
	for k := range l {
		l[k] = api.Name{Name: "/scrawled", Inode: -7}
	}
}

func TestNothingHandedInIsChanged(t *testing.T) {
	r := rand.New(rand.NewSource(116))
	for range 5000 {
		l := anyAtAll(r)
		entries, list := withRoom(l)
		were := slices.Clone(entries)
		Size(list)
		Encode(list)
		if !slices.Equal(entries, were) {
			t.Fatalf("Encode(%#v) changes the list, or its room, or what is ahead of it", l)
		}
		b := plainBlock(l)
		b[r.Intn(256)] ^= byte(r.Intn(2))
		whole, part := withSpare(b[:[]int{0, 255, 256, 256, 256}[r.Intn(5)]])
		was := bytes.Clone(whole)
		Decode(part)
		if !bytes.Equal(whole, was) {
			t.Fatalf("Decode(%x) changes the block, or its room, or what is ahead of it", part)
		}
	}
}

// An answer that is changed behind the call, also in its spare room, changes neither what was handed in nor another answer.
func TestAnswersAreNewMemory(t *testing.T) {
	for _, l := range samples(8, 300) {
		whole, list := withRoom(l)
		were := slices.Clone(whole)
		first, second := encoded(t, list), encoded(t, list)
		scribble(first)
		if !slices.Equal(whole, were) || !bytes.Equal(second, plainBlock(l)) {
			t.Fatalf("%#v: an answer of Encode shares memory", l)
		}
		wantEncode(t, l)

		read, _ := Decode(second)
		again, _ := Decode(second)
		scrawl(read)
		if !bytes.Equal(second, plainBlock(l)) || !slices.Equal(again, l) {
			t.Fatalf("%#v: an answer of Decode shares memory", l)
		}
		wantRead(t, "behind the change", second, l)
	}
}

// A list or bytes that are changed behind the call change no answer, and what is asked then is answered of them as they are then.
func TestNothingHandedInIsKept(t *testing.T) {
	for _, l := range samples(9, 300) {
		list := slices.Clone(l)
		b := encoded(t, list)
		scrawl(list)
		if !bytes.Equal(b, plainBlock(l)) {
			t.Fatalf("%#v: Encode's answer changes with the list", l)
		}
		if len(list) > 0 {
			wantRefused(t, "the list being changed", list)
		}

		read, err := Decode(b)
		scribble(b)
		if err != api.OK || !slices.Equal(read, l) {
			t.Fatalf("%#v: Decode's answer changes with the block: %#v, error %d", l, read, err)
		}
		wantUnread(t, "the block being changed", b)
	}
}

// Equal arguments get equal answers, whatever spare room they have and whatever was asked between.
func TestAgain(t *testing.T) {
	for _, l := range samples(10, 300) {
		first := encoded(t, l)
		Encode(named("x", "y"))
		Decode(plainBlock(named("x", "y")))
		Encode(named("y", "x"))
		Decode(nil)
		if second := encoded(t, append(make([]api.Name, 0, 99), l...)); !bytes.Equal(first, second) {
			t.Errorf("Encode(%#v): %x, then %x", l, first, second)
		}
		wantRead(t, "again", append(make([]byte, 0, 999), first...), l)
		wantSize(t, l)
	}
}

// A list or a block of none may be nil or empty.
func TestNilIsEmpty(t *testing.T) {
	for _, l := range [][]api.Name{nil, {}, make([]api.Name, 0, 9), named("a")[:0]} {
		wantTaken(t, "no entries", l, 0)
	}
	wantUnread(t, "nil", nil)
	wantUnread(t, "empty", []byte{})
}
