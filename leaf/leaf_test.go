package leaf

import (
	"bytes"
	"encoding/binary"
	"encoding/hex"
	"math/rand"
	"slices"
	"strings"
	"testing"

	"undercroft/api"
)

// P11.1: these lists have these blocks.

func TestTheseBlocks(t *testing.T) {
	for _, c := range []struct {
		l           []api.Name
		ahead, last string
	}{
		{nil, "00000000", "2153e667"},
		{one("a", 5), "01000600" + "0500000001" + "61", "5cb6bfbf"},
		{[]api.Name{{Name: "\x80", Inode: 0}, {Name: "\xff.", Inode: 1 << 20}}, "02000d00" + "0000000001" + "80" + "0000100002" + "ff2e", "37c12b14"},
		{one(strings.Repeat("n", 32), 0x12345), "01002500" + "4523010020" + strings.Repeat("6e", 32), "56c8042b"},
		{long(6, 32), "0600de00" +
			"e803000020" + "41" + strings.Repeat("78", 31) + "e903000020" + "42" + strings.Repeat("78", 31) + "ea03000020" + "43" + strings.Repeat("78", 31) +
			"eb03000020" + "44" + strings.Repeat("78", 31) + "ec03000020" + "45" + strings.Repeat("78", 31) + "ed03000020" + "46" + strings.Repeat("78", 31), "c418dc24"},
	} {
		want, err := hex.DecodeString(c.ahead + strings.Repeat("00", 252-len(c.ahead)/2) + c.last)
		if err != nil || len(want) != 256 {
			t.Fatal(len(want), err)
		}
		if b := encoded(t, c.l); !bytes.Equal(b, want) {
			t.Errorf("Encode(%#v):\n%x, want\n%x", c.l, b, want)
		}
		wantRead(t, "these bytes", want, c.l)
	}
}

// P11.1: the document's examples.

func TestExamples(t *testing.T) {
	wantTaken(t, "(a, 5)", one("a", 5), 6)
	wantTaken(t, "no entries", nil, 0)
	wantTaken(t, "no entries", []api.Name{}, 0)
	wantRefused(t, "names b, a", named("b", "a"))
	wantTaken(t, "6 names of 32 bytes", long(6, 32), 222)
	wantNoRoom(t, "7 names of 32 bytes", long(7, 32), 259)
}

// P11.1: names.

func TestNames(t *testing.T) {
	for _, name := range goodNames() {
		if !May(name) {
			t.Errorf("May(%q): false", name)
		}
		wantTaken(t, "one name", one(name, 9), 5+len(name))
	}
	for _, name := range badNames() {
		if May(name) {
			t.Errorf("May(%q): true", name)
		}
		wantRefused(t, "one name", one(name, 9))
	}
}

// All names of up to two bytes, and of three of the letters that matter.
func TestAllShortNames(t *testing.T) {
	for a := range 256 {
		wantMay(t, string([]byte{byte(a)}))
		for b := range 256 {
			wantMay(t, string([]byte{byte(a), byte(b)}))
		}
	}
	letters := []byte("\x00\x01-./0az\x80\xaf\xc0\xff")
	for _, a := range letters {
		for _, b := range letters {
			for _, c := range letters {
				wantMay(t, string([]byte{a, b, c}))
			}
		}
	}
}

// Each byte at each place of names of each length.
func TestEachByteAtEachPlace(t *testing.T) {
	for n := 1; n <= 35; n++ {
		for at := range n {
			b := bytes.Repeat([]byte{'m'}, n)
			for c := range 256 {
				b[at] = byte(c)
				wantMay(t, string(b))
				if at == 0 || at == n-1 {
					wantEncode(t, one(string(b), 1))
				}
			}
		}
	}
}

// A name that may not be makes a list wrong wherever it stands.
func TestABadNameAnywhere(t *testing.T) {
	for _, bad := range badNames() {
		for k := range 4 {
			l := named("b", "d", "f")
			l = slices.Insert(l, k, api.Name{Name: bad, Inode: 1})
			wantRefused(t, "a bad name", l)
			slices.SortFunc(l, func(a, b api.Name) int { return strings.Compare(a.Name, b.Name) })
			wantRefused(t, "a bad name in its order", l)
		}
	}
}

// P11.1: Inodes.

func TestInodes(t *testing.T) {
	for _, inode := range inodes() {
		wantTaken(t, "an Inode", one("a", inode), 6)
		wantTaken(t, "an Inode at the end", append(named("A", "B"), api.Name{Name: "a", Inode: inode}), 18)
	}
	for _, inode := range noInodes() {
		wantRefused(t, "an Inode", one("a", inode))
		for k := range 3 {
			l := named("a", "b", "c")
			l[k].Inode = inode
			wantRefused(t, "an Inode among others", l)
		}
	}
}

// Inodes may stand in any order, and more than once.
func TestInodesInAnyOrder(t *testing.T) {
	for _, a := range inodes() {
		for _, b := range inodes() {
			wantTaken(t, "two Inodes", []api.Name{{Name: "a", Inode: a}, {Name: "b", Inode: b}}, 12)
		}
	}
}

// P11.1: the order of names.

func TestOrder(t *testing.T) {
	for _, names := range [][]string{
		{"a", "b"}, {"a", "aa"}, {"a", "a\x01"}, {"A", "a"}, {"Z", "a"}, {"z", "\x80"}, {"\x7f", "\x80"}, {"\x80", "\xff"}, {"\xfe\xff", "\xff"}, {"a\xff", "b"}, {"\xff", "\xff\x01"},
		{"aa", "b"}, {"10", "9"}, {"...", ".a"}, {"-", "..."}, {"z", "\xc3\xa4"}, {"\ue000", "\U00010000"}, {strings.Repeat("a", 31), strings.Repeat("a", 32)}, {strings.Repeat("a", 32), strings.Repeat("a", 31) + "b"},
	} {
		a, b := names[0], names[1]
		wantTaken(t, "rising", named(a, b), 10+len(a)+len(b))
		wantRefused(t, "the wrong way round", named(b, a))
		wantRefused(t, "the same twice", named(a, a))
		wantRefused(t, "the same twice", named(b, b))
		wantRefused(t, "one that is the same behind", named(a, b, b))
		wantRefused(t, "one that is the same ahead", named(a, a, b))
		wantRefused(t, "one that comes back", named(a, b, a))
	}
	wantRefused(t, "the same twice, one Inode", []api.Name{{Name: "a", Inode: 7}, {Name: "a", Inode: 7}})
	wantRefused(t, "by length", named("b", "aa"))
	wantRefused(t, "by their last bytes", named("ba", "ab"))
}

// All pairs of names that may be, at their edges.
func TestAllPairs(t *testing.T) {
	for _, a := range append(goodNames(), "a\x01", "aaa", "b", "B") {
		for _, b := range append(goodNames(), "a\x01", "aaa", "b", "B") {
			l := named(a, b)
			wantSize(t, l)
			wantEncode(t, l)
			wantDecode(t, "a pair", plainBlock(l))
		}
	}
}

// All orders of four names: one is right.
func TestAllOrders(t *testing.T) {
	names := []string{"a", "a\x80", "b", "\xff"}
	rights := 0
	for k := range 4 * 4 * 4 * 4 {
		l := named(names[k%4], names[k/4%4], names[k/16%4], names[k/64])
		wantSize(t, l)
		wantEncode(t, l)
		wantDecode(t, "four names", plainBlock(l))
		if _, err := Size(l); err == api.OK {
			rights++
		}
	}
	if rights != 1 {
		t.Errorf("%d orders are right", rights)
	}
}

// P11.1: sizes.

func TestSizes(t *testing.T) {
	wantTaken(t, "a size", sized(0), 0)
	for size := 6; size <= 248; size++ {
		wantTaken(t, "a size", sized(size), size)
	}
	for size := 249; size < 320; size++ {
		wantNoRoom(t, "a size", sized(size), size)
	}
}

func TestSizesOfLongNames(t *testing.T) {
	for many := range 20 {
		for length := 1; length <= 32; length++ {
			if l := long(many, length); many*(5+length) <= 248 {
				wantTaken(t, "names of one length", l, many*(5+length))
			} else {
				wantNoRoom(t, "names of one length", l, many*(5+length))
			}
		}
	}
}

// So many short names as fit, and one more.
func TestMostNames(t *testing.T) {
	var l []api.Name
	for k := range 250 {
		if name := string([]byte{byte(k + 1)}); plainMay(name) {
			l = append(l, api.Name{Name: name, Inode: k})
		}
	}
	wantTaken(t, "41 names", l[:41], 246)
	wantNoRoom(t, "42 names", l[:42], 252)
	wantNoRoom(t, "many names", l, 6*len(l))
}

// A list whose number, or whose size, needs more than two bytes.
func TestVeryLongLists(t *testing.T) {
	var l []api.Name
	for k := range 70000 {
		l = append(l, api.Name{Name: string([]byte{byte(1 + k/10000), byte('0' + k/1000%10), byte('0' + k/100%10), byte('0' + k/10%10), byte('0' + k%10)}), Inode: k})
	}
	for _, many := range []int{6553, 6554, 6555, 65535, 65536, 65537, 70000} {
		wantNoRoom(t, "many names", l[:many], 10*many)
	}
	l[69999] = l[0]
	wantRefused(t, "many names, the last one wrong", l)
}

// A list that is neither right nor fits: ErrArg, which is told first.
func TestWrongAheadOfNoRoom(t *testing.T) {
	l := long(7, 32)
	l[0], l[6] = l[6], l[0]
	wantRefused(t, "the wrong way round", l)
	for k := range 7 {
		l := long(7, 32)
		l[k].Inode = -1
		wantRefused(t, "an Inode", l)
		l = long(7, 32)
		l[k].Name += "x"
		wantRefused(t, "a name of 33 bytes", l)
	}
}

// P11.1: Decode of other lengths.

func TestDecodeOfOtherLengths(t *testing.T) {
	for _, l := range few() {
		b := plainBlock(l)
		for n := range 256 {
			wantUnread(t, "cut short", b[:n])
			wantUnread(t, "without its beginning", b[256-n:])
		}
		wantUnread(t, "cut short, without room", b[:255:255])
		for _, more := range [][]byte{{0}, {1}, make([]byte, 256), b} {
			wantUnread(t, "with more behind", append(bytes.Clone(b), more...))
			wantUnread(t, "with more ahead", append(bytes.Clone(more), b...))
		}
		wantRead(t, "with room", append(bytes.Clone(b), "in the room behind"...)[:256], l)
		for _, n := range []int{4, 5, 8, 255, 257, 512} { // sealed as a block of that length would be
			short := make([]byte, n)
			copy(short, b[:min(n, 252)])
			binary.LittleEndian.PutUint32(short[n-4:], sumOf(short[:n-4]))
			wantUnread(t, "sealed, of another length", short)
		}
	}
	for _, n := range []int{0, 1, 3, 4, 255, 256, 257, 1 << 16} {
		wantUnread(t, "noughts", make([]byte, n))
		wantUnread(t, "all ones", bytes.Repeat([]byte{255}, n))
	}
	wantUnread(t, "nil", nil)
}

// P11.1: Decode of blocks whose sum is right.

func TestDecodeOfOtherNumbers(t *testing.T) {
	for _, l := range few() {
		entries := entriesOf(l)
		wantRead(t, "unchanged", blockOf(len(l), len(entries), entries), l)
		for many := range 1 << 16 {
			if many != len(l) && (many < 300 || many%256 == len(l) || many > 65500) {
				wantUnread(t, "another number of entries", blockOf(many, len(entries), entries))
			}
		}
		for size := range 1 << 16 {
			if size != len(entries) && (size < 600 || size%256 == len(entries)%256 || size > 65500) {
				wantUnread(t, "another size", blockOf(len(l), size, entries))
			}
		}
	}
}

// A number that is one less leaves the last entry behind the entries; one that is one more takes what is behind for an entry. The size may go along.
func TestDecodeOfANumberWithItsSize(t *testing.T) {
	for _, l := range few() {
		entries := entriesOf(l)
		for k := range l {
			wantUnread(t, "fewer entries, their size", blockOf(k, sizeOf(l[:k]), entries))
		}
		for more := 1; more < 60; more++ {
			wantUnread(t, "more entries, of no bytes", blockOf(len(l)+more, len(entries)+5*more, entries))
			wantUnread(t, "more entries, the size of one-letter names", blockOf(len(l)+more, len(entries)+6*more, entries))
		}
	}
}

func TestDecodeOfOtherNameLengths(t *testing.T) {
	for _, l := range few() {
		at := 4
		for k := range l {
			for length := range 256 {
				b := plainBlock(l)
				b[at+4] = byte(length)
				if length != len(l[k].Name) {
					wantUnread(t, "a name's length", sealed(b))
				}
				binary.LittleEndian.PutUint16(b[2:], uint16(sizeOf(l)+length-len(l[k].Name)))
				wantDecode(t, "a name's length, with the size that it makes", sealed(b))
			}
			at += 5 + len(l[k].Name)
		}
	}
}

// Lengths that no name has, the rest of the block being as it would be.
func TestDecodeOfTheseLengths(t *testing.T) {
	for _, length := range []int{0, 33, 34, 64, 128, 242, 243} {
		name := strings.Repeat("n", length)
		wantUnread(t, "one entry of that length", blockOf(1, 5+length, entryOf(7, length, name)))
		if length <= 64 {
			behind := append(entriesOf(one("a", 5)), entryOf(7, length, name)...)
			wantUnread(t, "the last entry of that length", blockOf(2, 11+length, behind))
			ahead := append(entryOf(7, length, ""), entriesOf(one("z", 5))...)
			wantUnread(t, "the first entry of that length", blockOf(2, 11+length, ahead))
		}
	}
	wantRead(t, "a length of 32", blockOf(1, 37, entryOf(7, 32, strings.Repeat("n", 32))), one(strings.Repeat("n", 32), 7))
}

// Entries that reach to the sum, into it and beyond.
func TestDecodeOfEntriesThatReachTooFar(t *testing.T) {
	for fill := 180; fill <= 248; fill++ { // bytes of the entries ahead of the last one
		l := sized(fill)
		last := "~" + strings.Repeat("~", 31)
		for length := 1; length <= 32; length++ {
			size := fill + 5 + length
			whole := append(slices.Clone(l), api.Name{Name: last[:length], Inode: 3})
			if size <= 248 {
				wantRead(t, "up to the sum", plainBlock(whole), whole)
			} else {
				wantUnread(t, "into the sum or beyond", plainBlock(whole))
			}
			for _, told := range []int{fill, 247, 248, 249, 250, 252, 253, 256} { // whatever the size says
				wantDecode(t, "reaching too far, with another size", blockOf(len(whole), told, entriesOf(whole)))
			}
		}
		for _, length := range []int{33, 48, 63, 64, 128, 200, 255} {
			far := append(entriesOf(l), entryOf(3, length, last)...)
			wantUnread(t, "far beyond", blockOf(len(l)+1, fill+5+length, far))
			wantUnread(t, "far beyond", blockOf(len(l)+1, 248, far))
		}
	}
	for _, fill := range []int{243, 244, 245, 246, 247, 248} { // of one more entry there is not even a number
		l := sized(fill)
		for _, size := range []int{fill, fill + 5, fill + 6, 248, 249, 252} {
			wantUnread(t, "one entry more than there is room for", blockOf(len(l)+1, size, entriesOf(l)))
		}
	}
}

// A last name that would be right, were the sum's bytes its own.
func TestDecodeOfANameThatEndsInTheSum(t *testing.T) {
	for inode := range 300 {
		l := append(long(6, 32), api.Name{Name: "Z" + strings.Repeat("z", 20), Inode: inode}) // 222 + 5 + 21 = 248
		b := encoded(t, l)
		for more := 1; more <= 4; more++ {
			b[4+222+4] = byte(21 + more)
			binary.LittleEndian.PutUint16(b[2:], uint16(248+more))
			wantUnread(t, "a name that ends in the sum", sealed(b))
		}
	}
}

func TestDecodeOfSealedListsThatAreNotRight(t *testing.T) {
	for _, bad := range badNames() {
		if len(bad) < 200 {
			wantUnread(t, "a bad name", plainBlock(one(bad, 5)))
			wantUnread(t, "a bad name ahead", plainBlock(append(one(bad, 5), api.Name{Name: "\xff\xff\xff", Inode: 5})))
			wantUnread(t, "a bad name behind", plainBlock(append(one("\x01", 5), api.Name{Name: bad, Inode: 5})))
		}
	}
	for _, inode := range []uint32{1<<20 + 1, 1<<20 | 2, 1 << 21, 1 << 24, 1<<24 + 5, 1<<31 - 1, 1 << 31, 1<<31 + 5, 1<<32 - 1} {
		for k := range 3 {
			l := named("a", "b", "c")
			l[k].Inode = int(inode)
			wantUnread(t, "an Inode", plainBlock(l))
		}
	}
	for _, names := range [][]string{{"b", "a"}, {"a", "a"}, {"aa", "a"}, {"a", "b", "b"}, {"a", "c", "b"}, {"b", "a", "c"}, {"\x80", "\x7f"}, {"\xff", "a"}, {"a\x01", "a"}} {
		wantUnread(t, "not rising", plainBlock(named(names...)))
	}
}

// All values of one byte, the sum being put right.
func TestDecodeOfEachSealedByte(t *testing.T) {
	for _, l := range [][]api.Name{nil, one("a", 5), named("a", "ab", "b"), long(6, 32), sized(248)} {
		b := plainBlock(l)
		for at := range 252 {
			for v := range 256 {
				c := bytes.Clone(b)
				c[at] = byte(v)
				wantDecode(t, "another byte", sealed(c))
			}
		}
	}
}

func TestDecodeOfBytesBehindTheEntries(t *testing.T) {
	for _, l := range few() {
		for at := 4 + sizeOf(l); at < 252; at++ {
			for _, v := range []byte{1, '/', 0x80, 0xff} {
				b := plainBlock(l)
				b[at] = v
				wantUnread(t, "a byte behind the entries", sealed(b))
			}
		}
		if sizeOf(l)+6 <= 248 {
			behind := append(entriesOf(l), entryOf(0, 1, "~")...)
			wantUnread(t, "another entry behind", blockOf(len(l), sizeOf(l), behind))
			wantUnread(t, "another entry behind, in the size", blockOf(len(l), sizeOf(l)+6, behind))
		}
	}
}

// P11.1: sums.

func TestDecodeOfOtherSums(t *testing.T) {
	for _, l := range few() {
		b := plainBlock(l)
		sum := binary.LittleEndian.Uint32(b[252:])
		for _, other := range []uint32{
			0, 1, 1<<32 - 1, ^sum, sum + 1, sum - 1, sum<<8 | sum>>24, sum>>16 | sum<<16,
			sumOf(b[:4+sizeOf(l)]), // of what is ahead of the unused bytes
			sumOf(b[:248]),         // of fewer bytes
			sumOf(b[4:252]),        // of what is behind the numbers
			sumOf(append(bytes.Clone(b[:252]), 0, 0, 0, 0)), // also of the place where it stands
			sumOf(b), // of itself too
			sumOf(plainBlock(one("other", 9))[:252]),
		} {
			c := bytes.Clone(b)
			binary.LittleEndian.PutUint32(c[252:], other)
			if other != sum {
				wantUnread(t, "another sum", c)
			}
		}
		binary.BigEndian.PutUint32(b[252:], sum)
		wantUnread(t, "the sum's bytes the other way round", b)
	}
}

// A block of noughts has no right sum.
func TestNoughtsAreNoBlock(t *testing.T) {
	wantUnread(t, "noughts", make([]byte, 256))
	if b := encoded(t, nil); bytes.Equal(b[252:], make([]byte, 4)) {
		t.Error("no entries: the sum is 0")
	}
}

// P11.1: anything at all.

func TestAnyNames(t *testing.T) {
	r := rand.New(rand.NewSource(111))
	for range 100000 {
		b := make([]byte, r.Intn(36))
		r.Read(b)
		if len(b) > 0 && r.Intn(3) == 0 {
			b[r.Intn(len(b))] = "\x00/.\xff"[r.Intn(4)]
		}
		wantMay(t, string(b))
		wantMay(t, anyName(r))
	}
}

func TestAnyLists(t *testing.T) {
	r := rand.New(rand.NewSource(112))
	for range 20000 {
		l := anyAtAll(r)
		wantSize(t, l)
		wantEncode(t, l)
		wantDecode(t, "sealed", plainBlock(l))
	}
}

func TestAnyBytes(t *testing.T) {
	r := rand.New(rand.NewSource(113))
	for range 40000 {
		b := plainBlock(anyFitting(r))
		for range r.Intn(4) {
			b[r.Intn(40)] = byte(r.Intn(256) >> r.Intn(9))
		}
		if r.Intn(4) == 0 {
			b[r.Intn(256)] = byte(r.Intn(256))
		}
		if r.Intn(8) > 0 {
			b = sealed(b)
		}
		if r.Intn(20) == 0 {
			b = b[:r.Intn(len(b)+1)]
		}
		wantDecode(t, "any bytes", b)
	}
	for range 5000 {
		b := make([]byte, []int{0, 1, 255, 256, 256, 257}[r.Intn(6)])
		r.Read(b)
		wantDecode(t, "noise", b)
		if len(b) == 256 {
			wantDecode(t, "sealed noise", sealed(b))
			b[0], b[1], b[3] = byte(r.Intn(4)), 0, 0
			wantDecode(t, "sealed noise of few entries", sealed(b))
		}
	}
}
