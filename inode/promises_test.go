package inode

import (
	"bytes"
	"math/rand"
	"testing"

	"undercroft/api"
)

// samples: the few and any others, each with a number.
func samples(seed int64) []sample {
	r := rand.New(rand.NewSource(seed))
	var l []sample
	for _, x := range few() {
		for _, number := range []int{0, 5, 1 << 20} {
			l = append(l, sample{x, number})
		}
	}
	for range 60 {
		l = append(l, sample{anyInode(r), r.Intn(1<<20 + 1)})
	}
	return l
}

type sample struct {
	x      api.Inode
	number int
}

// P9.2: what Encode tells Decode reads.

func TestReadAgain(t *testing.T) {
	r := rand.New(rand.NewSource(93))
	l := samples(1)
	for range 5000 {
		l = append(l, sample{anyInode(r), r.Intn(1<<20 + 1)})
	}
	for _, s := range append(l, sample{api.Inode{}, 0}, sample{api.Inode{}, 77}, sample{api.Inode{}, 1 << 20}) {
		wantRead(t, "what Encode tells", encoded(t, s.x, s.number), s.number, s.x)
	}
}

// Each value that a field may have comes back.
func TestEachValueIsReadAgain(t *testing.T) {
	r := rand.New(rand.NewSource(94))
	again := func(x api.Inode) {
		t.Helper()
		wantRead(t, "what Encode tells", encoded(t, x, 9), 9, x)
	}
	for v := range 65537 {
		x := api.Inode{Kind: 1 + v%3, Links: v % 101, Size: v, Attrs: v % 1024, Body: counting()}
		x.Inline = x.Kind != 2 && v <= 60
		if v < 3000 || v > 65000 || v%7 == 0 {
			again(x)
		}
	}
	for at := range 60 {
		for v := range 256 {
			x := anyInode(r)
			x.Body[at] = byte(v)
			again(x)
		}
	}
}

// P9.2: with no other number.

func TestNoOtherNumber(t *testing.T) {
	b := encoded(t, example(), 5)
	for number := range 1<<20 + 1 {
		if x, err := Decode(b, number); number != 5 && (err != api.ErrClean || !plainNone(x)) {
			t.Fatalf("Decode of number 5's bytes with number %d: %+v, error %d, want error %d", number, x, err, api.ErrClean)
		}
	}
}

func TestNoOtherNumberOfMany(t *testing.T) {
	r := rand.New(rand.NewSource(95))
	for _, s := range samples(2) {
		b := encoded(t, s.x, s.number)
		l := append(numbers(), s.number-1, s.number+1)
		for bit := range 21 {
			l = append(l, s.number^1<<bit)
		}
		for range 50 {
			l = append(l, r.Intn(1<<20+1))
		}
		for _, number := range l {
			switch {
			case number == s.number:
			case plainNumber(number):
				wantUnread(t, "another number", b, number, api.ErrClean)
			default:
				wantUnread(t, "a number that can't be", b, number, api.ErrArg)
			}
		}
	}
}

// Two inodes of different numbers never have the same bytes.
func TestBytesTellTheNumber(t *testing.T) {
	for _, x := range few() {
		met := map[string]int{}
		for number := 0; number <= 1<<20; number += 331 {
			b := encoded(t, x, number)
			if other, ok := met[string(b)]; ok {
				t.Fatalf("%+v has the same bytes with numbers %d and %d", x, other, number)
			}
			met[string(b)] = number
		}
	}
}

// P9.2: turned bits.

// turned: b with these bits turned, from bit at on (1 being the lowest bit's worth of its byte).
func turned(b []byte, at int, bits uint32) []byte {
	c := bytes.Clone(b)
	for k := range 32 {
		if bits>>k&1 == 1 && at+k < 8*len(c) {
			c[(at+k)/8] ^= 1 << ((at + k) % 8)
		}
	}
	return c
}

// wantNone: c, in which some bits were turned, is no inode's bytes, but where all of them became 0.
func wantNone(t *testing.T, what string, c []byte, number int) {
	t.Helper()
	if bytes.Equal(c, make([]byte, 128)) {
		wantRead(t, what, c, number, api.Inode{})
	} else {
		wantUnread(t, what, c, number, api.ErrClean)
	}
}

func TestEveryBitTurned(t *testing.T) {
	for _, s := range samples(3) {
		b := encoded(t, s.x, s.number)
		for at := range 8 * len(b) {
			wantUnread(t, "one bit turned", turned(b, at, 1), s.number, api.ErrClean)
		}
	}
}

func TestBitsWithin32Turned(t *testing.T) {
	r := rand.New(rand.NewSource(96))
	for _, s := range samples(4) {
		b := encoded(t, s.x, s.number)
		for at := range 8 * len(b) { // from the beginning over the middle to the end
			for _, bits := range []uint32{1<<32 - 1, 1<<31 | 1, 3, 0xff, 0x05ec76f1, 0x82f63b79, r.Uint32() | 1, r.Uint32() | 1, r.Uint32()&r.Uint32()&r.Uint32() | 1} {
				wantNone(t, "bits turned", turned(b, at, bits), s.number)
			}
		}
	}
}

// Of no inode no turned bits make one: were there one of which all but 32 bits side by side are 0, its sum would be 0.
func TestBitsOfNoInodeTurned(t *testing.T) {
	r := rand.New(rand.NewSource(97))
	for _, number := range numbers() {
		b := encoded(t, api.Inode{}, number)
		for at := range 8 * len(b) {
			for _, bits := range []uint32{1, 3, 1<<32 - 1, 0x82f63b79, r.Uint32() | 1, r.Uint32() | 1} {
				wantDecode(t, "bits of no inode turned", turned(b, at, bits), number)
				wantNone(t, "bits of no inode turned", turned(b, at, bits), number)
			}
		}
		for links := range 101 { // the bits that a Kind, Inline and Links are
			for _, kind := range []byte{1, 2, 3} {
				c := bytes.Clone(b)
				c[0], c[2] = kind, byte(links)
				wantNone(t, "a kind and links of no inode", c, number)
				c[1] = 1
				wantNone(t, "a kind and links of no inode, Inline", c, number)
			}
		}
	}
}

// Four bytes side by side become any others: noughts, ones, those of another inode.
func TestFourOtherBytes(t *testing.T) {
	for _, s := range samples(5)[:45] {
		b := encoded(t, s.x, s.number)
		for _, other := range few() {
			o := plainBytes(other, s.number)
			for at := 0; at+4 <= len(b); at++ {
				for _, four := range []string{"\x00\x00\x00\x00", "\xff\xff\xff\xff", string(o[at : at+4])} {
					c := bytes.Clone(b)
					copy(c[at:], four)
					if !bytes.Equal(b, c) {
						wantNone(t, "four other bytes", c, s.number)
					}
				}
			}
		}
	}
}

// What is all 0 is no inode, whatever it was.
func TestAllBecame0(t *testing.T) {
	for _, s := range samples(6) {
		b := encoded(t, s.x, s.number)
		for k := range b[:127] {
			b[k] = 0
			if !bytes.Equal(b, make([]byte, 128)) {
				wantDecode(t, "some became 0", b, s.number)
			}
		}
		clear(b)
		wantRead(t, "all became 0", b, s.number, api.Inode{})
	}
}

// P9.3 and P1: what is handed in is not changed, and an answer is new memory.

// withSpare: b in the midst of more bytes, which stand ahead of it and in its spare room.
func withSpare(b []byte) (whole, part []byte) {
	whole = bytes.Repeat([]byte{0x5a}, len(b)+32)
	copy(whole[8:], b)
	return whole, whole[8 : 8+len(b)]
}

// scribble: turns all bits of b, its spare room's too.
func scribble(b []byte) {
	b = b[:cap(b)]
	for k := range b {
		b[k] = ^b[k]
	}
}

func TestNothingHandedInIsChanged(t *testing.T) {
	r := rand.New(rand.NewSource(98))
	for range 3000 {
		x := anyAtAll(r)
		number := anyOf(r, append(numbers(), -1, 1<<20+1, r.Intn(1<<20)))
		whole, part := withSpare(x.Body)
		x.Body = part
		was := bytes.Clone(whole)
		Check(x)
		Encode(x, number)
		if !bytes.Equal(whole, was) {
			t.Fatalf("Encode(%+v, %d) changes the Body, or its room, or what is ahead of it", x, number)
		}
		whole, part = withSpare(plainBytes(x, number)[:anyOf(r, []int{0, 60, 127, 128, 128, 128})])
		was = bytes.Clone(whole)
		Decode(part, number)
		if !bytes.Equal(whole, was) {
			t.Fatalf("Decode of %x with %d changes it, or its room, or what is ahead of it", part, number)
		}
	}
}

// An answer that is changed behind the call, also in its spare room, changes neither what was handed in nor another answer.
func TestAnswersAreNewMemory(t *testing.T) {
	for _, s := range append(samples(7), sample{api.Inode{}, 5}) {
		body := bytes.Clone(s.x.Body)
		one, two := encoded(t, s.x, s.number), encoded(t, s.x, s.number)
		scribble(one)
		want, _ := plainEncode(s.x, s.number)
		if !bytes.Equal(s.x.Body, body) || !bytes.Equal(two, want) {
			t.Fatalf("%+v: an answer of Encode shares memory", s.x)
		}
		wantEncode(t, s.x, s.number)

		x, _ := Decode(two, s.number)
		y, _ := Decode(two, s.number)
		scribble(x.Body)
		if !bytes.Equal(two, want) || !same(y, s.x) {
			t.Fatalf("%+v: an answer of Decode shares memory", s.x)
		}
		wantRead(t, "behind the change", two, s.number, s.x)
	}
}

// A Body or bytes that are changed behind the call change no answer, and what is asked then is answered of them as they are then.
func TestNothingHandedInIsKept(t *testing.T) {
	for _, s := range samples(8) {
		x := s.x
		x.Body = bytes.Clone(s.x.Body)
		b := encoded(t, x, s.number)
		scribble(x.Body)
		if !bytes.Equal(b, plainBytes(s.x, s.number)) {
			t.Fatalf("%+v: Encode's answer changes with the Body", s.x)
		}
		wantEncode(t, x, s.number)

		got, err := Decode(b, s.number)
		scribble(b)
		if err != api.OK || !same(got, s.x) {
			t.Fatalf("%+v: Decode's answer changes with the bytes: %+v, error %d", s.x, got, err)
		}
		wantUnread(t, "the bytes being changed", b, s.number, api.ErrClean)
	}
}

// Equal arguments get equal answers, whatever spare room they have and whatever was asked between.
func TestAgain(t *testing.T) {
	for _, s := range samples(9) {
		first := encoded(t, s.x, s.number)
		Encode(example(), s.number)
		Decode(plainBytes(example(), 7), 7)
		x := s.x
		x.Body = append(make([]byte, 0, 99), s.x.Body...)
		if second := encoded(t, x, s.number); !bytes.Equal(first, second) {
			t.Errorf("Encode(%+v, %d): %x, then %x", s.x, s.number, first, second)
		}
		wantRead(t, "again", append(make([]byte, 0, 300), first...), s.number, s.x)
		wantCheck(t, s.x)
		wantCheck(t, x)
	}
}
