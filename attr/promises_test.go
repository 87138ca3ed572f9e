package attr

import (
	"bytes"
	"math/rand"
	"slices"
	"strings"
	"testing"

	"undercroft/api"
)

// samples: the few and any others, all of which fit.
func samples(seed int64, many int) [][]api.Pair {
	r := rand.New(rand.NewSource(seed))
	l := few()
	for range many {
		l = append(l, anyFitting(r))
	}
	return l
}

// P13.2: what Encode tells Decode reads.

func TestReadAgain(t *testing.T) {
	for _, l := range samples(1, 20000) {
		wantRead(t, "what Encode tells", encoded(t, l), l)
	}
}

// Two lists never have the same block.
func TestBlocksTellLists(t *testing.T) {
	met := map[string][]api.Pair{}
	for _, l := range samples(2, 20000) {
		b := encoded(t, l)
		if other, ok := met[string(b)]; ok && !slices.Equal(l, other) {
			t.Fatalf("%#v and %#v have the same block", l, other)
		}
		met[string(b)] = l
	}
}

// The same bytes, parted otherwise into Names and Values, are another list, and another block.
func TestPartsOfTheSameBytes(t *testing.T) {
	text := "abcdefghijklmnop"
	for k := 1; k <= 16; k++ {
		l := one(text[:k], text[k:])
		wantRead(t, "one attribute", encoded(t, l), l)
		for from := k; from < 16; from++ {
			for to := from + 1; to <= 16; to++ {
				l := []api.Pair{{Name: text[:k], Value: text[k:from]}, {Name: text[from:to], Value: text[to:]}}
				wantRead(t, "two attributes", encoded(t, l), l)
			}
		}
	}
}

// P13.2: turned bits.

// turned: b with these bits turned, from bit at on (1 being the lowest bit's worth of its byte).
func turned(b []byte, at int, bits uint32) []byte {
	c := bytes.Clone(b)
	for k := range 32 {
		if bits>>k&1 == 1 && at+k < 8*len(c) {
			c[(at+k)/8] ^= 1 << ((at + k) % 8)
		}
	}
	return c
}

func TestEveryBitTurned(t *testing.T) {
	for _, l := range samples(3, 60) {
		b := encoded(t, l)
		for at := range 8 * len(b) {
			wantUnread(t, "one bit turned", turned(b, at, 1))
		}
	}
}

// All bits of each run of 1 to 32 bits.
func TestEveryRunOfBitsTurned(t *testing.T) {
	for _, l := range [][]api.Pair{nil, one("a", "xy"), append(wide(3, 16, 64), api.Pair{Name: "z", Value: "1"}), wide(83, 1, 0)} {
		b := encoded(t, l)
		for n := 1; n <= 32; n++ {
			for at := 0; at+n <= 8*len(b); at++ {
				wantUnread(t, "a run of bits turned", turned(b, at, 1<<n-1))
			}
		}
	}
}

// Two bits turned that are at most 32 bits apart: all of them.
func TestTwoBitsTurned(t *testing.T) {
	for _, l := range [][]api.Pair{nil, one("a", "xy"), sized(250)} {
		b := encoded(t, l)
		for at := range 8 * len(b) {
			for k := 1; k < 32 && at+k < 8*len(b); k++ {
				wantUnread(t, "two bits turned", turned(b, at, 1<<k|1))
			}
		}
	}
}

// Some bits of each run of 32, across the attributes, what is behind them, and the sum.
func TestBitsWithin32Turned(t *testing.T) {
	r := rand.New(rand.NewSource(133))
	for _, l := range samples(4, 20) {
		b := encoded(t, l)
		for at := range 8 * len(b) {
			for _, bits := range []uint32{1<<31 | 1, 0xff, 0x05ec76f1, 0x82f63b79, r.Uint32() | 1, r.Uint32() | 1, r.Uint32()&r.Uint32()&r.Uint32() | 1} {
				wantUnread(t, "bits turned", turned(b, at, bits))
			}
		}
	}
}

// Four bytes side by side become any others: noughts, ones, those of another block.
func TestFourOtherBytes(t *testing.T) {
	for _, l := range samples(5, 10) {
		b := encoded(t, l)
		for _, other := range few() {
			o := plainBlock(other)
			for at := 0; at+4 <= len(b); at++ {
				for _, four := range []string{"\x00\x00\x00\x00", "\xff\xff\xff\xff", string(o[at : at+4])} {
					c := bytes.Clone(b)
					copy(c[at:], four)
					if !bytes.Equal(b, c) {
						wantUnread(t, "four other bytes", c)
					}
				}
			}
		}
	}
}

// P13.2: what was Set is got, until it is dropped; others stay.

// wantKept: l has just these attributes.
func wantKept(t *testing.T, l []api.Pair, table map[string]string) {
	t.Helper()
	if !slices.Equal(l, plainList(table)) {
		t.Fatalf("%#v, want %#v", l, table)
	}
	for name, value := range table {
		wantValue(t, "what was Set", l, name, value)
	}
	wantRead(t, "on the way", encoded(t, l), l)
}

// Any calls, one behind the other, the list of each being what the last one told.
func TestLives(t *testing.T) {
	r := rand.New(rand.NewSource(134))
	for range 400 {
		names := []string{"a", "aa", "b", anyPair(r).Name, anyPair(r).Name, anyPair(r).Name, long16}
		var l []api.Pair
		table := map[string]string{}
		for range 60 {
			p := api.Pair{Name: names[r.Intn(len(names))], Value: anyText(r, 66)}
			_, there := table[p.Name]
			if r.Intn(3) > 0 {
				wantSet(t, l, p)
				if out, err := Set(l, p); err == api.OK {
					l = out
					table[p.Name] = p.Value
				}
			} else if out, err := Drop(l, p.Name); there && err == api.OK {
				l = out
				delete(table, p.Name)
				wantNeither(t, "what was dropped", l, p.Name, api.ErrAttr)
			} else if there || err != api.ErrAttr {
				t.Fatalf("Drop(%#v, %q): error %d", l, p.Name, err)
			}
			wantKept(t, l, table)
		}
	}
}

// Attributes that are Set in any order make one list; dropped in any order they leave the others, and at the end none.
func TestAnyOrder(t *testing.T) {
	r := rand.New(rand.NewSource(135))
	for _, want := range samples(6, 300) {
		var l []api.Pair
		table := map[string]string{}
		for _, k := range r.Perm(len(want)) {
			out, err := Set(l, want[k])
			if err != api.OK {
				t.Fatalf("Set(%#v, %#v): error %d", l, want[k], err)
			}
			l = out
			table[want[k].Name] = want[k].Value
			wantKept(t, l, table)
		}
		for _, k := range r.Perm(len(want)) {
			out, err := Drop(l, want[k].Name)
			if err != api.OK {
				t.Fatalf("Drop(%#v, %q): error %d", l, want[k].Name, err)
			}
			l = out
			delete(table, want[k].Name)
			wantKept(t, l, table)
			wantNeither(t, "what was dropped", l, want[k].Name, api.ErrAttr)
		}
	}
}

// A Set with an error leaves what was there.
func TestSetThatIsRefused(t *testing.T) {
	l := sized(250)
	table := plainTable(l)
	for _, p := range []api.Pair{{Name: "new"}, {Name: long17}, {Name: "", Value: "v"}, {Name: l[0].Name, Value: long65}, {Name: l[3].Name, Value: l[3].Value + "w"}} {
		if _, err := Set(l, p); err == api.OK {
			t.Errorf("Set(%#v, %#v): no error", l, p)
		}
		wantKept(t, l, table)
	}
}

// P13.3 and P1: what is handed in is not changed, and an answer is new memory.

// withRoom: l in the midst of more attributes, which stand ahead of it and in its spare room.
func withRoom(l []api.Pair) (whole, part []api.Pair) {
	whole = append(append(named("ahead", "also ahead"), l...), named("behind", "also behind")...)
	return whole, whole[2 : 2+len(l)]
}

// withSpare: b in the midst of more bytes, which stand ahead of it and in its spare room.
func withSpare(b []byte) (whole, part []byte) {
	whole = bytes.Repeat([]byte{0x5a}, len(b)+32)
	copy(whole[8:], b)
	return whole, whole[8 : 8+len(b)]
}

// scribble: turns all bits of b, its spare room's too.
func scribble(b []byte) {
	b = b[:cap(b)]
	for k := range b {
		b[k] = ^b[k]
	}
}

// scrawl: changes all attributes of l, its spare room's too.
func scrawl(l []api.Pair) {
	l = l[:cap(l)]
	for k := range l {
		l[k] = api.Pair{Name: "", Value: "scrawled"}
	}
}

func TestNothingHandedInIsChanged(t *testing.T) {
	r := rand.New(rand.NewSource(136))
	for k := range 8000 {
		l := anyAtAll(r)
		if k%2 == 0 {
			l = anyFitting(r)
		}
		pairs, list := withRoom(l)
		were := slices.Clone(pairs)
		name := anyName(r, l)
		Encode(list)
		Set(list, api.Pair{Name: name, Value: anyText(r, 64)})
		Drop(list, name)
		Get(list, name)
		if !slices.Equal(pairs, were) {
			t.Fatalf("a call with %#v changes the list, or its room, or what is ahead of it", l)
		}
		b := plainBlock(l)
		b[r.Intn(256)] ^= byte(r.Intn(2))
		whole, part := withSpare(b[:[]int{0, 255, 256, 256, 256}[r.Intn(5)]])
		was := bytes.Clone(whole)
		Decode(part)
		if !bytes.Equal(whole, was) {
			t.Fatalf("Decode(%x) changes the block, or its room, or what is ahead of it", part)
		}
	}
}

// An answer that is changed behind the call, also in its spare room, changes neither what was handed in nor another answer.
func TestBlocksAndReadListsAreNewMemory(t *testing.T) {
	for _, l := range samples(8, 300) {
		whole, list := withRoom(l)
		were := slices.Clone(whole)
		first, second := encoded(t, list), encoded(t, list)
		scribble(first)
		if !slices.Equal(whole, were) || !bytes.Equal(second, plainBlock(l)) {
			t.Fatalf("%#v: an answer of Encode shares memory", l)
		}
		wantEncode(t, l)

		read, _ := Decode(second)
		again, _ := Decode(second)
		scrawl(read)
		if !bytes.Equal(second, plainBlock(l)) || !slices.Equal(again, l) {
			t.Fatalf("%#v: an answer of Decode shares memory", l)
		}
		wantRead(t, "behind the change", second, l)
	}
}

// turns: lists that Set and Drop tell of l: another attribute, another Value, the same again, one less.
func turns(l []api.Pair) map[string]func() ([]api.Pair, api.Errno) {
	all := map[string]func() ([]api.Pair, api.Errno){}
	for _, name := range []string{"\x00!", "m!", "\xff!"} {
		all["Set "+name] = func() ([]api.Pair, api.Errno) { return Set(l, api.Pair{Name: name, Value: "v"}) }
	}
	for _, p := range slices.Clone(l) {
		all["Set "+p.Name] = func() ([]api.Pair, api.Errno) { return Set(l, api.Pair{Name: p.Name, Value: "v"}) }
		all["Set the same "+p.Name] = func() ([]api.Pair, api.Errno) { return Set(l, p) }
		all["Drop "+p.Name] = func() ([]api.Pair, api.Errno) { return Drop(l, p.Name) }
	}
	return all
}

func TestTurnedListsAreNewMemory(t *testing.T) {
	for _, l := range samples(9, 200) {
		whole, list := withRoom(l)
		were := slices.Clone(whole)
		for what, turn := range turns(list) {
			first, err := turn()
			want := slices.Clone(first)
			second, _ := turn()
			scrawl(first)
			if !slices.Equal(whole, were) {
				t.Fatalf("%s of %#v: the answer shares memory with the list", what, l)
			}
			if third, again := turn(); !slices.Equal(second, want) || !slices.Equal(third, want) || again != err {
				t.Fatalf("%s of %#v: answers share memory", what, l)
			}
		}
	}
}

// A list or bytes that are changed behind the call change no answer, and what is asked then is answered of them as they are then.
func TestNothingHandedInIsKept(t *testing.T) {
	for _, l := range samples(10, 200) {
		for what, turn := range turns(l) {
			first, _ := turn()
			list := slices.Clone(l)
			second, _ := turns(list)[what]()
			scrawl(list)
			if !slices.Equal(first, second) {
				t.Fatalf("%s of %#v: the answer changes with the list", what, l)
			}
		}
		list := slices.Clone(l)
		b := encoded(t, list)
		scrawl(list)
		if !bytes.Equal(b, plainBlock(l)) {
			t.Fatalf("%#v: Encode's answer changes with the list", l)
		}
		if len(list) > 0 {
			wantRefused(t, "the list being changed", list)
		}

		read, err := Decode(b)
		scribble(b)
		if err != api.OK || !slices.Equal(read, l) {
			t.Fatalf("%#v: Decode's answer changes with the block: %#v, error %d", l, read, err)
		}
		wantUnread(t, "the block being changed", b)
	}
}

// Equal arguments get equal answers, whatever spare room they have and whatever was asked between.
func TestAgain(t *testing.T) {
	for _, l := range samples(11, 300) {
		first := encoded(t, l)
		Encode(named("x", "y"))
		Decode(plainBlock(named("x", "y")))
		Set(named("x", "y"), api.Pair{Name: "z"})
		Drop(named("x", "y"), "x")
		Encode(named("y", "x"))
		Decode(nil)
		roomy := append(make([]api.Pair, 0, 99), l...)
		if second := encoded(t, roomy); !bytes.Equal(first, second) {
			t.Errorf("Encode(%#v): %x, then %x", l, first, second)
		}
		wantRead(t, "again", append(make([]byte, 0, 999), first...), l)
		for _, name := range []string{"", "a", "x", strings.Repeat("\xff", 16)} {
			wantAll(t, roomy, api.Pair{Name: name, Value: "v"})
		}
	}
}

// A list of none may be nil or empty.
func TestNilIsEmpty(t *testing.T) {
	for _, l := range [][]api.Pair{nil, {}, make([]api.Pair, 0, 9), named("a")[:0]} {
		wantTaken(t, "no attributes", l)
		wantListed(t, "no attributes", l, api.Pair{Name: "a", Value: "v"}, one("a", "v"))
		wantNeither(t, "no attributes", l, "a", api.ErrAttr)
		wantNeither(t, "no attributes", l, "", api.ErrAttr)
		wantUnset(t, "no attributes", l, api.Pair{}, api.ErrArg)
	}
	wantUnread(t, "nil", nil)
	wantUnread(t, "empty", []byte{})
}
