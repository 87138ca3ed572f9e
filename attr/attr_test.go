package attr

import (
	"bytes"
	"encoding/binary"
	"encoding/hex"
	"math/rand"
	"slices"
	"strings"
	"testing"

	"undercroft/api"
)

// P13.1: these lists have these blocks.

func TestTheseBlocks(t *testing.T) {
	for _, c := range []struct {
		l           []api.Pair
		ahead, last string
	}{
		{nil, "0000", "2153e667"},
		{one("a", "xy"), "0100" + "0102" + "61" + "7879", "020ce87e"},
		{[]api.Pair{{Name: "a", Value: "2"}, {Name: "b", Value: "1"}}, "0200" + "0101" + "61" + "32" + "0101" + "62" + "31", "6392df9b"},
		{[]api.Pair{{Name: "\x00"}, {Name: "/", Value: "\x00"}, {Name: "\xff\xfe", Value: "\xff"}}, "0300" + "0100" + "00" + "0101" + "2f" + "00" + "0201" + "fffe" + "ff", "8575c304"},
		{one(long16, long64), "0100" + "1040" + strings.Repeat("6e", 16) + strings.Repeat("76", 64), "8fdd3e61"},
		{[]api.Pair{
			{Name: "A" + strings.Repeat("x", 15), Value: strings.Repeat("a", 64)},
			{Name: "B" + strings.Repeat("x", 15), Value: strings.Repeat("b", 64)},
			{Name: "C" + strings.Repeat("x", 15), Value: strings.Repeat("c", 64)},
			{Name: "z", Value: "1"},
		}, "0400" +
			"1040" + "41" + strings.Repeat("78", 15) + strings.Repeat("61", 64) +
			"1040" + "42" + strings.Repeat("78", 15) + strings.Repeat("62", 64) +
			"1040" + "43" + strings.Repeat("78", 15) + strings.Repeat("63", 64) +
			"0101" + "7a" + "31", "cb465077"},
	} {
		want, err := hex.DecodeString(c.ahead + strings.Repeat("00", 252-len(c.ahead)/2) + c.last)
		if err != nil || len(want) != 256 {
			t.Fatal(len(want), err)
		}
		if b := encoded(t, c.l); !bytes.Equal(b, want) {
			t.Errorf("Encode(%#v):\n%x, want\n%x", c.l, b, want)
		}
		wantRead(t, "these bytes", want, c.l)
	}
}

// P13.1: the document's examples.

func TestExamples(t *testing.T) {
	if b := encoded(t, one("a", "xy")); string(b[:8]) != "\x01\x00\x01\x02axy\x00" {
		t.Errorf("(a, xy): %x", b)
	}
	wantListed(t, "(b, 1) to (a, 2)", one("a", "2"), api.Pair{Name: "b", Value: "1"}, []api.Pair{{Name: "a", Value: "2"}, {Name: "b", Value: "1"}})
	three := wide(3, 16, 64)
	wantTaken(t, "three long ones", three)
	z1, z12 := api.Pair{Name: "z", Value: "1"}, api.Pair{Name: "z", Value: "12"}
	wantTaken(t, "with (z, 1)", append(slices.Clone(three), z1))
	wantListed(t, "with (z, 1)", three, z1, append(slices.Clone(three), z1))
	wantNoRoom(t, "with (z, 12)", append(slices.Clone(three), z12))
	wantUnset(t, "with (z, 12)", three, z12, api.ErrAttr)
	wantUnset(t, "(z, 12) for (z, 1)", append(slices.Clone(three), z1), z12, api.ErrAttr)
}

// P13.1: attributes.

func TestAttributes(t *testing.T) {
	for _, p := range goodPairs() {
		wantTaken(t, "one attribute", []api.Pair{p})
		wantListed(t, "the first one", nil, p, []api.Pair{p})
		wantListed(t, "once more", []api.Pair{p}, p, []api.Pair{p})
		wantListed(t, "another Value", one(p.Name, "other"), p, []api.Pair{p})
		wantValue(t, "one attribute", []api.Pair{p}, p.Name, p.Value)
		wantLess(t, "one attribute", []api.Pair{p}, p.Name, nil)
	}
	for _, p := range badPairs() {
		wantRefused(t, "one attribute", []api.Pair{p})
		wantUnset(t, "the first one", nil, p, api.ErrArg)
		wantUnset(t, "among others", named("a", "b"), p, api.ErrArg)
	}
}

// All lengths of Names and Values, with all that may be.
func TestAllLengths(t *testing.T) {
	for name := range 20 {
		for value := range 70 {
			for _, c := range []string{"\x00", "n", "\xff"} {
				p := api.Pair{Name: strings.Repeat(c, name), Value: strings.Repeat(c, value)}
				if name >= 1 && name <= 16 && value <= 64 {
					wantTaken(t, "these lengths", []api.Pair{p})
					wantListed(t, "these lengths", nil, p, []api.Pair{p})
				} else {
					wantRefused(t, "these lengths", []api.Pair{p})
					wantUnset(t, "these lengths", nil, p, api.ErrArg)
				}
			}
		}
	}
}

// Names and Values are any bytes: each one at each place.
func TestEachByteAtEachPlace(t *testing.T) {
	for c := range 256 {
		for at := range 16 {
			name := []byte(long16)
			name[at] = byte(c)
			wantTaken(t, "a byte of a Name", one(string(name), "v"))
			wantTaken(t, "a byte of a shorter Name", one(string(name[:at+1]), ""))
			wantListed(t, "a byte of a Name", nil, api.Pair{Name: string(name), Value: "v"}, one(string(name), "v"))
			wantValue(t, "a byte of a Name", one(string(name), "v"), string(name), "v")
		}
		for at := range 64 {
			value := []byte(long64)
			value[at] = byte(c)
			wantTaken(t, "a byte of a Value", one("a", string(value)))
			wantTaken(t, "a byte of a shorter Value", one("a", string(value[:at+1])))
			wantValue(t, "a byte of a Value", one("a", string(value)), "a", string(value))
		}
	}
}

// An attribute that may not be makes a list wrong wherever it stands.
func TestABadAttributeAnywhere(t *testing.T) {
	for _, bad := range badPairs() {
		for k := range 4 {
			l := slices.Insert(named("b", "d", "f"), k, bad)
			wantRefused(t, "a bad attribute", l)
			slices.SortStableFunc(l, func(a, b api.Pair) int { return strings.Compare(a.Name, b.Name) })
			wantRefused(t, "a bad attribute in its order", l)
		}
	}
}

// P13.1: the order of Names.

func TestOrder(t *testing.T) {
	for _, names := range [][]string{
		{"a", "b"}, {"a", "aa"}, {"a", "a\x00"}, {"a", "a\x01"}, {"\x00", "\x00\x00"}, {"\x00", "\x01"}, {"A", "a"}, {"Z", "a"}, {"z", "\x80"}, {"\x7f", "\x80"}, {"\x80", "\xff"}, {"\xfe\xff", "\xff"}, {"a\xff", "b"}, {"\xff", "\xff\x00"},
		{"aa", "b"}, {"10", "9"}, {"..", "./"}, {".", "/"}, {"z", "\xc3\xa4"}, {"\ue000", "\U00010000"}, {strings.Repeat("a", 15), strings.Repeat("a", 16)}, {strings.Repeat("a", 16), strings.Repeat("a", 15) + "b"},
	} {
		a, b := names[0], names[1]
		wantTaken(t, "rising", named(a, b))
		wantRefused(t, "the wrong way round", named(b, a))
		wantRefused(t, "the same twice", named(a, a))
		wantRefused(t, "the same twice", named(b, b))
		wantRefused(t, "one that is the same behind", named(a, b, b))
		wantRefused(t, "one that is the same ahead", named(a, a, b))
		wantRefused(t, "one that comes back", named(a, b, a))
		wantListed(t, "behind", named(a), api.Pair{Name: b, Value: "x2"}, named(a, b))
		wantListed(t, "ahead", named(a, b)[1:], api.Pair{Name: a, Value: "x1"}, named(a, b))
		wantNeither(t, "the other one", named(a), b, api.ErrAttr)
		wantNeither(t, "the other one", named(b), a, api.ErrAttr)
	}
	wantRefused(t, "the same twice, one Value", []api.Pair{{Name: "a", Value: "v"}, {Name: "a", Value: "v"}})
	wantRefused(t, "the same twice, rising Values", []api.Pair{{Name: "a", Value: "v"}, {Name: "a", Value: "w"}})
	wantRefused(t, "by Values", []api.Pair{{Name: "b", Value: "v"}, {Name: "a", Value: "w"}})
	wantRefused(t, "by length", named("b", "aa"))
	wantRefused(t, "by their last bytes", named("ba", "ab"))
	wantTaken(t, "Values may stand in any order", []api.Pair{{Name: "a", Value: "w"}, {Name: "b", Value: "v"}, {Name: "c", Value: "w"}})
}

// All pairs of attributes that may be, at their edges.
func TestAllPairs(t *testing.T) {
	l := append(goodPairs(), named("b", "B", "aaa", "a\x01")...)
	for _, a := range l {
		for _, b := range l {
			wantAll(t, []api.Pair{a, b}, a)
			wantSet(t, []api.Pair{a}, b)
			wantDrop(t, []api.Pair{a}, b.Name)
			wantGet(t, []api.Pair{a}, b.Name)
		}
	}
}

// All orders of four Names: one is right.
func TestAllOrders(t *testing.T) {
	names := []string{"a", "a\x80", "b", "\xff"}
	rights := 0
	for k := range 4 * 4 * 4 * 4 {
		l := named(names[k%4], names[k/4%4], names[k/16%4], names[k/64])
		for _, name := range names {
			wantAll(t, l, api.Pair{Name: name, Value: "new"})
		}
		if _, err := Encode(l); err == api.OK {
			rights++
		}
	}
	if rights != 1 {
		t.Errorf("%d orders are right", rights)
	}
}

// P13.1: sizes.

func TestSizes(t *testing.T) {
	wantTaken(t, "a size", sized(0))
	for size := 3; size < 320; size++ {
		l := sized(size)
		if sizeOf(l) != size || !plainRight(l) {
			t.Fatalf("%#v hasn't the size %d", l, size)
		}
		if size <= 250 {
			wantTaken(t, "a size", l)
		} else {
			wantNoRoom(t, "a size", l)
		}
	}
}

func TestSizesOfEqualLengths(t *testing.T) {
	for many := range 90 {
		for name := 1; name <= 16; name++ {
			for _, value := range []int{0, 1, 2, 7, 31, 63, 64} {
				if l := wide(many, name, value); many*(2+name+value) <= 250 {
					wantTaken(t, "equal lengths", l)
				} else {
					wantNoRoom(t, "equal lengths", l)
				}
			}
		}
	}
}

// So many short attributes as fit, and one more.
func TestMostAttributes(t *testing.T) {
	wantTaken(t, "83 attributes", wide(83, 1, 0))
	wantTaken(t, "83 attributes, one of them longer", append(wide(82, 1, 0), api.Pair{Name: "\xff", Value: "x"}))
	wantNoRoom(t, "83 attributes, one of them longer still", append(wide(82, 1, 0), api.Pair{Name: "\xff", Value: "xx"}))
	wantNoRoom(t, "84 attributes", wide(84, 1, 0))
	wantNoRoom(t, "many attributes", wide(255, 1, 0))
	wantListed(t, "the 83rd", wide(83, 1, 0)[:82], wide(83, 1, 0)[82], wide(83, 1, 0))
	wantUnset(t, "the 84th", wide(83, 1, 0), api.Pair{Name: "\xff"}, api.ErrAttr)
	wantListed(t, "one byte more", wide(83, 1, 0), api.Pair{Name: "\x07", Value: "x"}, with(wide(83, 1, 0), 6, api.Pair{Name: "\x07", Value: "x"}))
	wantUnset(t, "two bytes more", wide(83, 1, 0), api.Pair{Name: "\x07", Value: "xx"}, api.ErrAttr)
}

// A list whose number needs more than two bytes.
func TestVeryLongLists(t *testing.T) {
	var l []api.Pair
	for k := range 70000 {
		l = append(l, api.Pair{Name: string([]byte{byte(1 + k/10000), byte('0' + k/1000%10), byte('0' + k/100%10), byte('0' + k/10%10), byte('0' + k%10)}), Value: "v"})
	}
	for _, many := range []int{255, 256, 257, 65535, 65536, 65537, 70000} {
		part := l[:many:many]
		wantNoRoom(t, "many attributes", part)
		wantUnset(t, "many attributes", part, api.Pair{Name: "a"}, api.ErrAttr)
		wantUnset(t, "many attributes, a shorter Value", part, api.Pair{Name: l[9].Name}, api.ErrAttr)
		wantValue(t, "many attributes", part, l[many-1].Name, "v")
		wantNeither(t, "many attributes", part, "a", api.ErrAttr)
		wantLess(t, "many attributes", part, l[many-1].Name, l[:many-1])
	}
	l[69999] = l[0]
	for _, err := range errorsOf(l, api.Pair{Name: "a"}) {
		if err != api.ErrArg {
			t.Errorf("many attributes, the last one wrong: error %d", err)
		}
	}
}

// errorsOf: those that all calls with a list answer.
func errorsOf(l []api.Pair, p api.Pair) []api.Errno {
	_, encode := Encode(l)
	_, set := Set(l, p)
	_, drop := Drop(l, p.Name)
	_, get := Get(l, p.Name)
	return []api.Errno{encode, set, drop, get}
}

// P13.1: ErrArg is told ahead of ErrAttr.

func TestWrongAheadOfNoRoom(t *testing.T) {
	l := wide(4, 16, 64)
	wantNoRoom(t, "right, but too much", l)
	l[0], l[3] = l[3], l[0]
	wantRefused(t, "the wrong way round", l)
	for k := range 4 {
		wantRefused(t, "a Name of 17 bytes", with(wide(4, 16, 64), k, api.Pair{Name: wide(4, 17, 1)[k].Name}))
		wantRefused(t, "a Value of 65 bytes", with(wide(4, 16, 64), k, api.Pair{Name: wide(4, 16, 1)[k].Name, Value: long65}))
	}
	for _, bad := range badPairs() {
		wantUnset(t, "where there is no room", sized(250), bad, api.ErrArg)
		wantUnset(t, "where there is too much", wide(4, 16, 64), bad, api.ErrArg)
		wantUnset(t, "where the list is wrong", named("b", "a"), bad, api.ErrArg)
	}
}

// P13.1: a right list that doesn't fit.

// What is asked of Set is that what comes out fits, and of Drop and Get that the list is right.
func TestListsThatDoNotFit(t *testing.T) {
	l := append(wide(3, 16, 64), api.Pair{Name: "z", Value: "12"}) // 251
	wantNoRoom(t, "251", l)
	wantListed(t, "a shorter Value", l, api.Pair{Name: "z", Value: "1"}, append(wide(3, 16, 64), api.Pair{Name: "z", Value: "1"}))
	wantUnset(t, "the same Value", l, api.Pair{Name: "z", Value: "12"}, api.ErrAttr)
	wantUnset(t, "an equally long Value", l, api.Pair{Name: "z", Value: "21"}, api.ErrAttr)
	wantUnset(t, "a longer Value", l, api.Pair{Name: "z", Value: "123"}, api.ErrAttr)
	wantUnset(t, "another one", l, api.Pair{Name: "y"}, api.ErrAttr)
	wantLess(t, "it fits then", l, "z", wide(3, 16, 64))
	wantValue(t, "251", l, "z", "12")
	wantNeither(t, "251", l, "y", api.ErrAttr)
	l = wide(9, 16, 64)
	wantLess(t, "it doesn't fit then either", l, l[4].Name, without(l, 4))
	wantValue(t, "much too much", l, l[8].Name, l[8].Value)
	wantUnset(t, "much too much", l, api.Pair{Name: l[0].Name}, api.ErrAttr)
}

// P13.1: Set.

func TestSetOfAnotherName(t *testing.T) {
	l := named("b", "d", "f")
	for k, name := range []string{"a", "c", "e", "g"} {
		for _, value := range []string{"", "v", long64} {
			p := api.Pair{Name: name, Value: value}
			wantListed(t, "ahead of all, between, behind all", l, p, slices.Insert(slices.Clone(l), k, p))
		}
	}
	for k, name := range []string{"\x00", "b\x00", "d\x00", "f\x00"} {
		p := api.Pair{Name: name, Value: "v"}
		wantListed(t, "the least name there", l, p, slices.Insert(slices.Clone(l), k, p))
	}
	wantListed(t, "the greatest name", l, api.Pair{Name: strings.Repeat("\xff", 16)}, append(named("b", "d", "f"), api.Pair{Name: strings.Repeat("\xff", 16)}))
}

func TestSetOfAName(t *testing.T) {
	l := named("b", "d", "f")
	for k := range l {
		for _, value := range []string{"", "v", "x1", "longer", long64} {
			p := api.Pair{Name: l[k].Name, Value: value}
			wantListed(t, "another Value", l, p, with(l, k, p))
		}
		for _, value := range []string{long65, strings.Repeat("x", 256), strings.Repeat("x", 1000)} {
			wantUnset(t, "a Value that may not be", l, api.Pair{Name: l[k].Name, Value: value}, api.ErrArg)
		}
	}
}

// Of each size ahead each attribute that just fits, and one byte more, of Names that are there and that aren't.
func TestSetOfWhatJustFits(t *testing.T) {
	for size := 3; size <= 250; size++ {
		l := sized(size)
		for _, name := range []string{"!", "~", "00", "0!", long16} {
			wantSetUpTo(t, l, name, 250-size-2-len(name))
		}
		for _, p := range l {
			wantSetUpTo(t, l, p.Name, 250-size+len(p.Value))
		}
	}
}

// wantSetUpTo: Set takes that name with a Value of at most so many bytes, as far as there may be such a Value.
func wantSetUpTo(t *testing.T, l []api.Pair, name string, most int) {
	t.Helper()
	for n := max(most-2, 0); n <= most+2 && n <= 65; n++ {
		p := api.Pair{Name: name, Value: strings.Repeat("w", n)}
		wantSet(t, l, p)
		wanted := api.OK
		if n > 64 {
			wanted = api.ErrArg
		} else if n > most {
			wanted = api.ErrAttr
		}
		if out, err := Set(l, p); err != wanted || wanted == api.OK && sizeOf(out) != 250-most+n {
			t.Errorf("Set(%#v, %#v): size %d, error %d, want error %d", l, p, sizeOf(out), err, wanted)
		}
	}
}

// P13.1: Drop and Get.

func TestDropAndGet(t *testing.T) {
	for _, l := range few() {
		for k, p := range l {
			wantLess(t, "a name that is there", l, p.Name, without(l, k))
			wantValue(t, "a name that is there", l, p.Name, p.Value)
		}
		for _, name := range append(badNames(), "no", "\x00\x01", "a\x00", "A", "aa", "zz", strings.Repeat("n", 15), "\xff\xff") {
			if _, ok := plainTable(l)[name]; !ok {
				wantNeither(t, "a name that isn't there", l, name, api.ErrAttr)
			}
		}
	}
	for _, name := range badNames() {
		wantNeither(t, "no attributes", nil, name, api.ErrAttr)
		wantNeither(t, "a list that isn't right", named("b", "a"), name, api.ErrArg)
		wantNeither(t, "a list that isn't right, with that name", one(name, "v"), name, api.ErrArg)
	}
	wantNeither(t, "a Value isn't a Name", one("a", "v"), "v", api.ErrAttr)
	wantValue(t, "no Value", one("a", ""), "a", "")
}

// P13.1: Decode of other lengths.

func TestDecodeOfOtherLengths(t *testing.T) {
	for _, l := range few() {
		b := plainBlock(l)
		for n := range 256 {
			wantUnread(t, "cut short", b[:n])
			wantUnread(t, "without its beginning", b[256-n:])
		}
		wantUnread(t, "cut short, without room", b[:255:255])
		for _, more := range [][]byte{{0}, {1}, make([]byte, 256), b} {
			wantUnread(t, "with more behind", append(bytes.Clone(b), more...))
			wantUnread(t, "with more ahead", append(bytes.Clone(more), b...))
		}
		wantRead(t, "with room", append(bytes.Clone(b), "in the room behind"...)[:256], l)
		for _, n := range []int{4, 5, 6, 255, 257, 512} { // sealed as a block of that length would be
			short := make([]byte, n)
			copy(short, b[:min(n, 252)])
			binary.LittleEndian.PutUint32(short[n-4:], sumOf(short[:n-4]))
			wantUnread(t, "sealed, of another length", short)
		}
	}
	for _, n := range []int{0, 1, 3, 4, 255, 256, 257, 1 << 16} {
		wantUnread(t, "noughts", make([]byte, n))
		wantUnread(t, "all ones", bytes.Repeat([]byte{255}, n))
	}
	wantUnread(t, "nil", nil)
}

// P13.1: Decode of blocks whose sum is right.

func TestDecodeOfOtherNumbers(t *testing.T) {
	for _, l := range few() {
		pairs := pairsOf(l)
		wantRead(t, "unchanged", blockOf(len(l), pairs), l)
		for many := range 1 << 16 {
			if many != len(l) && (many < 300 || many%256 == len(l) || many > 65500) {
				wantUnread(t, "another number", blockOf(many, pairs))
			}
		}
	}
}

func TestDecodeOfANumberTurnedRound(t *testing.T) {
	for _, l := range few() {
		b := plainBlock(l)
		b[0], b[1] = b[1], b[0]
		if len(l) > 0 {
			wantUnread(t, "the number's bytes the other way round", sealed(b))
		}
	}
}

func TestDecodeOfOtherLengthBytes(t *testing.T) {
	for _, l := range few() {
		at := 2
		for _, p := range l {
			for v := range 256 {
				for _, which := range []int{0, 1} {
					b := plainBlock(l)
					b[at+which] = byte(v)
					wantDecode(t, "another length", sealed(b))
				}
				// The two lengths are the same together, so that all behind them stays in its place.
				b := plainBlock(l)
				b[at], b[at+1] = byte(v), byte(len(p.Name)+len(p.Value)-v)
				wantDecode(t, "other lengths", sealed(b))
			}
			at += 2 + len(p.Name) + len(p.Value)
		}
	}
}

// Lengths past the limits, the rest of the block being as it would be.
func TestDecodeOfTheseLengths(t *testing.T) {
	text := strings.Repeat("n", 255)
	for name := range 256 {
		for _, value := range []int{0, 1, 2, 63, 64, 65, 66, 128, 200, 248 - name, 249 - name, 255} {
			if value < 0 || value > 255 {
				continue
			}
			b := blockOf(1, pairOf(name, value, text[:min(name+value, 255)]))
			if name >= 1 && name <= 16 && value <= 64 {
				wantRead(t, "lengths that may be", b, one(text[:name], text[:value]))
			} else {
				wantUnread(t, "lengths that may not be", b)
			}
			wantDecode(t, "the last one of these lengths", blockOf(2, append(pairsOf(one("a", "x")), pairOf(name, value, text)...)))
			wantDecode(t, "the first one of these lengths", blockOf(2, append(pairOf(name, value, text[:min(name+value, 255)]), pairsOf(one("z", "x"))...)))
		}
	}
}

// Attributes that reach to the sum, into it and beyond.
func TestDecodeOfAttributesThatReachTooFar(t *testing.T) {
	for fill := 160; fill <= 250; fill++ { // bytes of the attributes ahead of the last one
		l := sized(fill)
		for name := 1; name <= 16; name++ {
			for value := 0; value <= 64; value++ {
				whole := append(slices.Clone(l), api.Pair{Name: strings.Repeat("~", name), Value: strings.Repeat("v", value)})
				if fill+2+name+value <= 250 {
					wantRead(t, "up to the sum", plainBlock(whole), whole)
				} else {
					wantUnread(t, "into the sum or beyond", plainBlock(whole))
				}
			}
		}
		for _, lengths := range [][]int{{17, 64}, {16, 65}, {64, 16}, {255, 0}, {0, 255}, {255, 255}, {128, 128}} {
			wantUnread(t, "far beyond", blockOf(len(l)+1, append(pairsOf(l), pairOf(lengths[0], lengths[1], strings.Repeat("~", 200))...)))
		}
	}
	for fill := 247; fill <= 250; fill++ { // of one more attribute there isn't even a Name
		l := sized(fill)
		for _, more := range []string{"", "\x01", "\x01\x00", "\x00\x00", "\x01\x01"} {
			wantUnread(t, "one attribute more than there is room for", blockOf(len(l)+1, append(pairsOf(l), more...)))
		}
	}
}

// A last Value, or a last Name, that would be right, were the sum's bytes its own.
func TestDecodeOfWhatEndsInTheSum(t *testing.T) {
	const at = 2 + 3*78 // where the last one begins
	for k := range 300 {
		text := strings.Repeat("v", 11) + string([]byte{byte(k), byte(k >> 8)})
		b := encoded(t, append(wide(3, 16, 60), api.Pair{Name: "~", Value: text})) // 3*78 + 2 + 1 + 13 = 250
		for more := 1; more <= 6; more++ {
			b[at+1] = byte(len(text) + more)
			wantUnread(t, "a Value that ends in the sum", sealed(b))
		}
		b = encoded(t, append(wide(3, 16, 60), api.Pair{Name: "~" + text}))
		for more := 1; more <= 6; more++ {
			b[at] = byte(1 + len(text) + more)
			wantUnread(t, "a Name that ends in the sum", sealed(b))
		}
	}
}

func TestDecodeOfSealedListsThatAreNotRight(t *testing.T) {
	for _, bad := range badPairs() {
		if len(bad.Name) < 200 && len(bad.Value) < 200 {
			wantUnread(t, "a bad attribute", plainBlock([]api.Pair{bad}))
			wantUnread(t, "a bad attribute ahead", plainBlock(append([]api.Pair{bad}, one("\xff\xff\xff", "v")...)))
			wantUnread(t, "a bad attribute behind", plainBlock(append(one("\x00", "v"), bad)))
		}
	}
	for _, names := range [][]string{{"b", "a"}, {"a", "a"}, {"aa", "a"}, {"a", "b", "b"}, {"a", "c", "b"}, {"b", "a", "c"}, {"\x80", "\x7f"}, {"\xff", "a"}, {"a\x00", "a"}, {"\x00", "\x00"}, {"\x00\x00", "\x00"}, {long16, long16}} {
		wantUnread(t, "not rising", plainBlock(named(names...)))
	}
}

// All values of one byte, the sum being put right.
func TestDecodeOfEachSealedByte(t *testing.T) {
	for _, l := range [][]api.Pair{nil, one("a", "xy"), named("a", "ab", "b"), append(wide(3, 16, 64), api.Pair{Name: "z", Value: "1"}), wide(83, 1, 0), sized(250)} {
		b := plainBlock(l)
		for at := range 252 {
			for v := range 256 {
				c := bytes.Clone(b)
				c[at] = byte(v)
				wantDecode(t, "another byte", sealed(c))
			}
		}
	}
}

func TestDecodeOfBytesBehindTheAttributes(t *testing.T) {
	for _, l := range few() {
		for at := 2 + sizeOf(l); at < 252; at++ {
			for _, v := range []byte{1, '/', 0x80, 0xff} {
				b := plainBlock(l)
				b[at] = v
				wantUnread(t, "a byte behind the attributes", sealed(b))
			}
		}
		if sizeOf(l)+3 <= 250 {
			behind := append(pairsOf(l), pairOf(1, 0, "\xff\xff")...)
			wantUnread(t, "another attribute behind", blockOf(len(l), behind))
		}
	}
}

// P13.1: sums.

func TestDecodeOfOtherSums(t *testing.T) {
	for _, l := range few() {
		b := plainBlock(l)
		sum := binary.LittleEndian.Uint32(b[252:])
		for _, other := range []uint32{
			0, 1, 1<<32 - 1, ^sum, sum + 1, sum - 1, sum<<8 | sum>>24, sum>>16 | sum<<16,
			sumOf(b[:2+sizeOf(l)]), // of what is ahead of the unused bytes
			sumOf(b[:248]),         // of fewer bytes
			sumOf(b[2:252]),        // of what is behind the number
			sumOf(append(bytes.Clone(b[:252]), 0, 0, 0, 0)), // also of the place where it stands
			sumOf(b), // of itself too
			sumOf(plainBlock(one("other", "v"))[:252]),
		} {
			c := bytes.Clone(b)
			binary.LittleEndian.PutUint32(c[252:], other)
			if other != sum {
				wantUnread(t, "another sum", c)
			}
		}
		binary.BigEndian.PutUint32(b[252:], sum)
		wantUnread(t, "the sum's bytes the other way round", b)
	}
}

// A block of noughts has no right sum.
func TestNoughtsAreNoBlock(t *testing.T) {
	wantUnread(t, "noughts", make([]byte, 256))
	if b := encoded(t, nil); bytes.Equal(b[252:], make([]byte, 4)) {
		t.Error("no attributes: the sum is 0")
	}
}

// P13.1: anything at all.

func TestAnyLists(t *testing.T) {
	r := rand.New(rand.NewSource(131))
	for range 30000 {
		l := anyAtAll(r)
		p := api.Pair{Name: anyName(r, l), Value: anyText(r, 70)}
		wantAll(t, l, p)
		fitting := anyFitting(r)
		p.Name = anyName(r, fitting)
		wantAll(t, fitting, p)
	}
}

func TestAnyBytes(t *testing.T) {
	r := rand.New(rand.NewSource(132))
	for range 60000 {
		b := plainBlock(anyFitting(r))
		for range r.Intn(4) {
			b[r.Intn(40)] = byte(r.Intn(256) >> r.Intn(9))
		}
		if r.Intn(4) == 0 {
			b[r.Intn(256)] = byte(r.Intn(256))
		}
		if r.Intn(8) > 0 {
			b = sealed(b)
		}
		if r.Intn(20) == 0 {
			b = b[:r.Intn(len(b)+1)]
		}
		wantDecode(t, "any bytes", b)
	}
	for range 5000 {
		b := make([]byte, []int{0, 1, 255, 256, 256, 257}[r.Intn(6)])
		r.Read(b)
		wantDecode(t, "noise", b)
		if len(b) == 256 {
			wantDecode(t, "sealed noise", sealed(b))
			b[0], b[1], b[2] = byte(r.Intn(4)), 0, byte(r.Intn(17))
			wantDecode(t, "sealed noise of few attributes", sealed(b))
		}
	}
}
