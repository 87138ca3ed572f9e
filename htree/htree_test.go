package htree

import (
	"bytes"
	"encoding/binary"
	"encoding/hex"
	"fmt"
	"math"
	"math/rand"
	"slices"
	"strings"
	"testing"

	"undercroft/api"
)

// P12.1: these directories have these blocks.

// whole: the block whose bytes are these in base sixteen: the first ones, then noughts, then the last ones.
func whole(t *testing.T, first, last string) []byte {
	t.Helper()
	b, err := hex.DecodeString(first + strings.Repeat("00", 256-len(first)/2-len(last)/2) + last)
	if err != nil || len(b) != 256 {
		t.Fatal(len(b), err)
	}
	return b
}

// letters: entries of names of 32 bytes, a capital letter and x.
func letters(capitals string) []api.Name {
	var l []api.Name
	for _, c := range []byte(capitals) {
		l = append(l, api.Name{Name: string(c) + strings.Repeat("x", 31), Inode: 1000 + int(c-'A')})
	}
	return l
}

func TestTheseBlocks(t *testing.T) {
	if d := New(); len(d) != 1 || !bytes.Equal(d[0], whole(t, "", "2153e667")) {
		t.Errorf("New: %x", d)
	}
	d := added(t, New(), letters("ABCDEF")...)
	if len(d) != 1 {
		t.Errorf("6 names of 32 bytes: %d blocks", len(d))
	}
	x := strings.Repeat("78", 31)
	want := [][]byte{
		whole(t, "0200ffff"+"00000000"+"01000000"+"0022d6b1"+"02000000", "5ecc06d3"),
		whole(t, "04009400"+"e803000020"+"41"+x+"e903000020"+"42"+x+"ea03000020"+"43"+x+"ee03000020"+"47"+x, "60ed8292"),
		whole(t, "03006f00"+"eb03000020"+"44"+x+"ec03000020"+"45"+x+"ed03000020"+"46"+x, "d0e7fd5f"),
	}
	if d = added(t, d, letters("G")...); !same(d, want) {
		t.Errorf("7 names of 32 bytes: %x, want %x", d, want)
	}
	d = added(t, d, letters("HIJKLMNOPQRST")...)
	index := whole(t, "0500ffff"+"00000000"+"01000000"+"a9d20c59"+"04000000"+"cbf2708c"+"03000000"+"0022d6b1"+"02000000"+"195759e8"+"05000000", "b306ec17")
	if len(d) != 6 || !bytes.Equal(d[0], index) {
		t.Fatalf("20 names of 32 bytes: %x, want the index %x", d, index)
	}
	for k, capitals := range []string{"ATMLB", "FDHQ", "GKRSJ", "NOC", "PIE"} {
		if !bytes.Equal(d[k+1], block(letters(capitals))) {
			t.Errorf("20 names of 32 bytes: leaf %d is %x, want the one of %s", k+1, d[k+1], capitals)
		}
	}
}

// P12.1: the document's examples.

func TestExamples(t *testing.T) {
	if d := New(); len(d) != 1 || len(d[0]) != 256 || !bytes.Equal(d[0][:252], make([]byte, 252)) || !bytes.Equal(d[0], sealed(d[0])) {
		t.Errorf("New: %x", d)
	}
	wantRight(t, "New", New())
	d := added(t, New(), letters("ABCDEFG")...)
	if len(d) != 3 {
		t.Errorf("7 names of 32 bytes: %d blocks", len(d))
	}
	wantRight(t, "7 names of 32 bytes", d)
	for _, e := range letters("ABCDEFG") {
		more, err := Add(d, e)
		wantNothing(t, "a name that is there", more, err, api.ErrExist)
	}
	// a, b, c and d have the sums c1d04330, d280b0c4, 20eb33c7 and f421572c.
	d = added(t, New(), api.Name{Name: "a", Inode: 1}, api.Name{Name: "b", Inode: 2}, api.Name{Name: "c", Inode: 3}, api.Name{Name: "d", Inode: 4})
	if l, err := After(d, "", 2); err != api.OK || !slices.Equal(l, []api.Name{{Name: "c", Inode: 3}, {Name: "a", Inode: 1}}) {
		t.Errorf("After(c, a, b, d; 2): %#v, error %d", l, err)
	}
}

// P12.1: directories of so many blocks.

func TestDirectoriesOfSoManyBlocks(t *testing.T) {
	wantRefused(t, "no block", nil)
	wantRefused(t, "no block", [][]byte{})
	wantRight(t, "one block", New())
	wantRefused(t, "an index alone", even(2)[:1])
	wantRefused(t, "an index of one row", built(part{0, 1, nil}))
	wantRefused(t, "an index of two rows, one leaf", even(2)[:2])
	wantRefused(t, "two leaves", [][]byte{New()[0], New()[0]})
	wantRefused(t, "three leaves", [][]byte{New()[0], New()[0], New()[0]})
	wantRefused(t, "two indexes", [][]byte{even(2)[0], even(2)[0], even(2)[0]})
	for leaves := 2; leaves <= 30; leaves++ {
		wantRight(t, "so many leaves", even(leaves))
		wantCalls(t, "so many leaves", even(leaves), api.Name{Name: "a", Inode: 5}, 9)
		wantRefused(t, "a leaf less", even(leaves)[:leaves])
		wantRefused(t, "a leaf more", append(even(leaves), New()[0]))
		wantRefused(t, "without the index", even(leaves)[1:])
		wantRefused(t, "without the first leaf", slices.Delete(even(leaves), 1, 2))
		wantRefused(t, "two indexes", append(even(leaves)[:1], even(leaves)...))
		wantRefused(t, "the index behind", append(even(leaves)[1:], even(leaves)[0]))
	}
	var parts []part
	for k := range 31 {
		parts = append(parts, part{step * uint32(k), uint32(k + 1), nil})
	}
	wantRight(t, "30 leaves without entries", built(parts[:30]...))
	wantRefused(t, "31 leaves without entries", built(parts...)) // the rows fill the index up to its sum
	many := make([][]byte, 1000)
	for k := range many {
		many[k] = New()[0]
	}
	wantRefused(t, "many leaves", many)
}

func TestBlocksOfOtherLengths(t *testing.T) {
	for _, d := range few() {
		wantRight(t, "few", d)
		for k := range d {
			for _, n := range []int{0, 1, 4, 252, 255} {
				e := cloned(d)
				e[k] = d[k][:n]
				wantRefused(t, "cut short", e)
				e[k] = d[k][256-n:]
				wantRefused(t, "without its beginning", e)
			}
			for _, more := range []int{1, 256} {
				e := cloned(d)
				e[k] = append(bytes.Clone(d[k]), make([]byte, more)...)
				wantRefused(t, "with noughts behind", e)
				e[k] = append(make([]byte, more), d[k]...)
				wantRefused(t, "with noughts ahead", e)
			}
			e := cloned(d)
			e[k] = nil
			wantRefused(t, "a nil block", e)
			for _, n := range []int{255, 257} { // sealed as a block of that length would be
				b := make([]byte, n)
				copy(b, d[k][:252])
				binary.LittleEndian.PutUint32(b[n-4:], sumOf(b[:n-4]))
				e[k] = b
				wantRefused(t, "sealed, of another length", e)
			}
			e[k] = append(bytes.Clone(d[k]), "in the room behind"...)[:256]
			wantRight(t, "with room", e)
		}
	}
}

// P12.1: indexes.

// withIndex: a directory like d, with that index.
func withIndex(d [][]byte, index []byte) [][]byte {
	d = cloned(d)
	d[0] = index
	return d
}

// linesOf: the rows of a directory's index.
func linesOf(d [][]byte) []line {
	lines, _ := plainIndex(d[0])
	return lines
}

func TestAnIndexThatSaysAnotherNumber(t *testing.T) {
	for _, leaves := range []int{2, 3, 29, 30} {
		d := even(leaves)
		for n := range 1 << 16 {
			b := bytes.Clone(d[0])
			binary.LittleEndian.PutUint16(b, uint16(n))
			if e := withIndex(d, sealed(b)); n == leaves {
				wantRight(t, "its number", e)
			} else if n < 300 || n%256 == leaves || n > 65500 {
				wantRefused(t, "another number", e)
			}
		}
	}
}

// So many leaves, and an index of so many rows, each with each.
func TestAnIndexOfOtherRows(t *testing.T) {
	for leaves := range 32 {
		d := make([][]byte, 1+leaves)
		for k := range d {
			d[k] = New()[0]
		}
		for n := range 32 {
			var lines []line
			for k := range n {
				lines = append(lines, line{step * uint32(k), uint32(k + 1)})
			}
			if e := withIndex(d, indexBlock(lines...)); n == leaves && 2 <= n && n <= 30 {
				wantRight(t, "as many rows as leaves", e)
			} else {
				wantRefused(t, fmt.Sprintf("%d rows of %d leaves", n, leaves), e)
			}
		}
	}
}

func TestRowsThatNameOtherBlocks(t *testing.T) {
	for _, leaves := range []int{2, 3, 29, 30} {
		var parts []part
		for k := range leaves {
			parts = append(parts, part{step * uint32(k), uint32(k + 1), nil})
		}
		d := built(parts...)
		for k := range leaves {
			for other := range uint32(40) {
				lines := linesOf(d)
				lines[k].block = other
				if e := withIndex(d, indexBlock(lines...)); other == uint32(k+1) {
					wantRight(t, "its block", e)
				} else {
					wantRefused(t, "another block: 0, one that is there twice, or a greater one", e)
				}
			}
			for _, other := range []uint32{256, 257 + uint32(k), 1 << 16, 1<<31 - 1, 1 << 31, 1<<31 + uint32(k) + 1, 1<<32 - 1} {
				lines := linesOf(d)
				lines[k].block = other
				wantRefused(t, "a block beyond all", withIndex(d, indexBlock(lines...)))
			}
			for l := range k { // without entries the leaves may be exchanged
				lines := linesOf(d)
				lines[k].block, lines[l].block = lines[l].block, lines[k].block
				wantRight(t, "two blocks exchanged", withIndex(d, indexBlock(lines...)))
			}
		}
	}
	two := even(2)
	lines := linesOf(two)
	lines[0].block, lines[1].block = lines[1].block, lines[0].block
	wantRefused(t, "two blocks exchanged, which have entries", withIndex(two, indexBlock(lines...)))
}

func TestRowsOfOtherSums(t *testing.T) {
	for _, leaves := range []int{2, 3, 30} {
		var parts []part
		for k := range leaves {
			parts = append(parts, part{step * uint32(k), uint32(k + 1), nil})
		}
		d := built(parts...)
		for k := range leaves {
			for _, low := range []uint32{0, 1, 255, 256, step - 1, step, step + 1, step * uint32(max(k, 1)-1), step*uint32(max(k, 1)-1) + 1, step*uint32(k) - 1, step*uint32(k) + 1, step*uint32(k+1) - 1, step * uint32(k+1), 1<<31 - 1, 1 << 31, 1<<32 - 1} {
				lines := linesOf(d)
				lines[k].low = low
				rise := lines[0].low == 0
				for l := 1; l < leaves; l++ {
					rise = rise && lines[l-1].low < lines[l].low
				}
				if e := withIndex(d, indexBlock(lines...)); rise {
					wantRight(t, "another sum", e)
				} else {
					wantRefused(t, "a first sum that isn't 0, or sums that don't rise", e)
				}
			}
		}
	}
	for _, lows := range [][]uint32{{0, 0}, {1, 2}, {0, 0, 1}, {0, 1, 1}, {0, 2, 1}, {1, 2, 3}, {0, 1 << 31, 1<<31 - 1}, {0, 1<<32 - 1, 1<<32 - 1}, {0, 1<<32 - 1, 0}, {1<<32 - 1, 0}, {0, 5, 0, 6}} {
		var parts []part
		for k, low := range lows {
			parts = append(parts, part{low, uint32(k + 1), nil})
		}
		wantRefused(t, "these sums", built(parts...))
	}
	wantRight(t, "sums at the edges", built(part{0, 1, nil}, part{1, 2, nil}, part{1<<31 - 1, 3, nil}, part{1 << 31, 4, nil}, part{1<<32 - 2, 5, nil}, part{1<<32 - 1, 6, nil}))
}

func TestOtherMarks(t *testing.T) {
	for _, leaves := range []int{2, 3, 30} {
		d := even(leaves)
		for mark := range 1 << 16 {
			b := bytes.Clone(d[0])
			binary.LittleEndian.PutUint16(b[2:], uint16(mark))
			if e := withIndex(d, sealed(b)); mark == 65535 {
				wantRight(t, "its mark", e)
			} else if mark < 300 || mark > 65000 || mark&(mark-1) == 0 || mark%256 == 255 || mark == 8*leaves {
				wantRefused(t, "another mark", e)
			}
		}
	}
}

func TestBytesBehindTheRows(t *testing.T) {
	for _, leaves := range []int{2, 3, 29, 30} {
		d := even(leaves)
		for at := 4 + 8*leaves; at < 252; at++ {
			for _, c := range []byte{1, 2, 128, 255} {
				b := bytes.Clone(d[0])
				b[at] = c
				wantRefused(t, "a byte behind the rows", withIndex(d, sealed(b)))
			}
		}
	}
}

// Each bit of an index turned: its sum isn't right any more.
func TestBitsOfAnIndexTurned(t *testing.T) {
	for _, leaves := range []int{2, 3, 30} {
		d := even(leaves)
		for at := range 8 * 256 {
			b := bytes.Clone(d[0])
			b[at/8] ^= 1 << (at % 8)
			wantRefused(t, "a bit turned", withIndex(d, b))
		}
		b := bytes.Clone(d[0])
		binary.BigEndian.PutUint32(b[252:], sumOf(b[:252]))
		wantRefused(t, "a sum with its highest byte first", withIndex(d, b))
		binary.LittleEndian.PutUint32(b[252:], ^sumOf(b[:252]))
		wantRefused(t, "a sum with its bits turned", withIndex(d, b))
		binary.LittleEndian.PutUint32(b[252:], 0)
		wantRefused(t, "a sum of 0", withIndex(d, b))
	}
}

// P12.1: leaves in their rows.

func TestSumsAtTheEdgesOfTheirRow(t *testing.T) {
	const low, next = 1 << 30, 3 << 30
	in := func(row int, sum uint32) [][]byte {
		parts := []part{{0, 2, entries(6, 7)}, {low, 3, entries(7, low+7)}, {next, 1, entries(8, next+7)}}
		parts[row].l = append(parts[row].l, entries(9, sum)...)
		return built(parts...)
	}
	for row, edges := range [][2]uint64{{0, low}, {low, next}, {next, 1 << 32}} {
		for _, sum := range []uint64{0, 1, low - 2, low - 1, low, low + 1, 1<<31 - 1, 1 << 31, next - 1, next, next + 1, 1<<32 - 2, 1<<32 - 1} {
			d := in(row, uint32(sum))
			if edges[0] <= sum && sum < edges[1] {
				wantRight(t, fmt.Sprintf("sum %x in row %d", sum, row), d)
				wantCalls(t, "sums at the edges", d, entries(9, uint32(sum))[0], 99)
			} else {
				wantRefused(t, fmt.Sprintf("sum %x in row %d", sum, row), d)
			}
		}
	}
}

// Of a leaf with many names a single one may be the wrong one, wherever it stands among them.
func TestOneNameInTheWrongLeaf(t *testing.T) {
	for _, leaves := range []int{2, 3, 30} {
		d := even(leaves)
		lines := linesOf(d)
		for k, l := range lines {
			for _, sum := range []uint32{0, step - 1, step, l.low - 1, l.low, l.low + 3, l.low + step - 1, l.low + step, 1<<32 - 1} {
				for _, front := range []string{"\x01", "n", "\xff"} { // by its bytes the first one, one among the others, the last one
					e := api.Name{Name: ending(front, sum), Inode: 5}
					with := cloned(d)
					with[l.block] = block(append(entriesOf(d[l.block]), e))
					last := k+1 == len(lines)
					if nameSum(e.Name) >= l.low && (last || nameSum(e.Name) < lines[k+1].low) {
						wantRight(t, "a name more in its leaf", with)
					} else {
						wantRefused(t, "a name more in a leaf that isn't its own", with)
					}
				}
			}
		}
	}
}

func TestALeafThatIsNone(t *testing.T) {
	for _, d := range few() {
		for k := range d {
			for _, b := range [][]byte{make([]byte, 256), bytes.Repeat([]byte{255}, 256), sealed(bytes.Repeat([]byte{255}, 256))} {
				e := cloned(d)
				e[k] = b
				wantRefused(t, "a block that is none", e)
			}
			for _, at := range []int{0, 2, 4, 9, 100, 251, 252, 255} {
				e := cloned(d)
				e[k][at] ^= 1
				wantRefused(t, "a bit turned", e)
			}
			e := cloned(d)
			e[k] = indexBlock(line{0, 1}, line{1, 2})
			if !plainRight(e) {
				wantRefused(t, "an index in its place", e)
			}
			e[k] = New()[0]
			if len(d) > 1 && k == 0 {
				wantRefused(t, "a leaf in the index's place", e)
			} else {
				wantRight(t, "a leaf without entries in its place", e)
				wantCalls(t, "a leaf without entries", e, entries(9, step*uint32(k))[0], 500)
			}
		}
	}
}

// P12.1: names and Inodes.

func TestNames(t *testing.T) {
	for _, d := range few() {
		for _, name := range goodNames() {
			wantCalls(t, "a name that may be", d, api.Name{Name: name, Inode: 5}, 3)
			if more, err := Add(d, api.Name{Name: name, Inode: 5}); err == api.OK {
				wantCalls(t, "a name that is there", more, api.Name{Name: name, Inode: 6}, 3)
			}
		}
		for _, name := range badNames() {
			wantCalls(t, "a name that may not be", d, api.Name{Name: name, Inode: 5}, 3)
			more, err := Add(d, api.Name{Name: name, Inode: 5})
			wantNothing(t, "Add of a name that may not be", more, err, api.ErrArg)
			more, err = Remove(d, name)
			wantNothing(t, "Remove of a name that may not be", more, err, api.ErrArg)
			more, err = Set(d, api.Name{Name: name, Inode: 5})
			wantNothing(t, "Set of a name that may not be", more, err, api.ErrArg)
			if inode, err := Find(d, name); inode != 0 || err != api.ErrArg {
				t.Errorf("Find(%x, %q): %d, error %d, want error %d", d, name, inode, err, api.ErrArg)
			}
			if _, err := After(d, name, 3); err != api.OK {
				t.Errorf("After(%x, %q, 3): error %d", d, name, err)
			}
		}
	}
}

func TestInodes(t *testing.T) {
	for _, d := range few() {
		d := added(t, d, api.Name{Name: "\x01b", Inode: 9})
		there := plainAll(d)
		for _, name := range []string{there[0].Name, "\x01b", there[len(there)-1].Name, "not there"} {
			for _, inode := range []int{0, 1, 255, 256, 65536, 1<<20 - 1, 1 << 20} {
				e := api.Name{Name: name, Inode: inode}
				wantCalls(t, "an Inode that may be", d, e, 3)
				if set, err := Set(d, e); name != "not there" && err == api.OK {
					if got, err := Find(set, name); got != inode || err != api.OK {
						t.Errorf("Find(Set(%x, %#v)): %d, error %d", d, e, got, err)
					}
				}
			}
			for _, inode := range noInodes() {
				e := api.Name{Name: name, Inode: inode}
				wantCalls(t, "an Inode that may not be", d, e, 3)
				more, err := Add(d, e) // whether its name is there or not: ErrArg is told first
				wantNothing(t, "Add of an Inode that may not be", more, err, api.ErrArg)
				more, err = Set(d, e)
				wantNothing(t, "Set of an Inode that may not be", more, err, api.ErrArg)
			}
		}
	}
}

// P12.1: a name that is there, and one that isn't.

func TestThereOrNot(t *testing.T) {
	for _, d := range few() {
		for _, e := range spread(plainAll(d)) {
			wantCalls(t, "a name that is there", d, e, 2)
			if inode, err := Find(d, e.Name); inode != e.Inode || err != api.OK {
				t.Errorf("Find(%x, %q): %d, error %d, want %d", d, e.Name, inode, err, e.Inode)
			}
			more, err := Add(d, e)
			wantNothing(t, "Add of a name that is there", more, err, api.ErrExist)
			more, err = Add(d, api.Name{Name: e.Name, Inode: e.Inode + 1})
			wantNothing(t, "Add of a name that is there, of another Inode", more, err, api.ErrExist)
			// Names beside it, of its own sum and of those ahead and behind, which aren't there.
			for _, sum := range []uint32{nameSum(e.Name) - 1, nameSum(e.Name), nameSum(e.Name) + 1} {
				other := api.Name{Name: summed(sum, 14, 35), Inode: 5}
				wantCalls(t, "a name beside it", d, other, 2)
				more, err := Remove(d, other.Name)
				wantNothing(t, "Remove of a name that isn't there", more, err, api.ErrNone)
				more, err = Set(d, other)
				wantNothing(t, "Set of a name that isn't there", more, err, api.ErrNone)
				if inode, err := Find(d, other.Name); inode != 0 || err != api.ErrNone {
					t.Errorf("Find(%x, %q): %d, error %d, want error %d", d, other.Name, inode, err, api.ErrNone)
				}
			}
			wantCalls(t, "its beginning", d, api.Name{Name: e.Name[:len(e.Name)-1], Inode: 5}, 2)
		}
	}
}

// Remove and Set turn one leaf alone, which stays where it is, without entries too.
func TestRemoveAndSetTurnOneLeaf(t *testing.T) {
	for _, d := range few() {
		for _, e := range plainAll(d) {
			k := plainLeaf(d, e.Name)
			l := entriesOf(d[k])
			at := plainPlace(l, e.Name)
			want := cloned(d)
			want[k] = block(slices.Delete(slices.Clone(l), at, at+1))
			if less := wantRemove(t, "its leaf alone", d, e.Name); !same(less, want) {
				t.Errorf("Remove(%x, %q): %x, want %x", d, e.Name, less, want)
			}
			l[at].Inode = 4711
			want[k] = block(l)
			if set := wantSet(t, "its leaf alone", d, api.Name{Name: e.Name, Inode: 4711}); !same(set, want) {
				t.Errorf("Set(%x, %q, 4711): %x, want %x", d, e.Name, set, want)
			}
			wantSet(t, "the Inode that it has", d, e)
		}
		for _, e := range plainAll(d) { // down to no entries
			d = wantRemove(t, "one after the other", d, e.Name)
			wantRight(t, "without an entry more", d)
		}
		if l := wantAfter(t, "without entries", d, "", 99); len(l) != 0 {
			t.Errorf("After(%x): %#v", d, l)
		}
	}
}

// P12.1: Add.

// wantParts: Add of e to d splits a leaf, whose block has the first c entries then and the new one the others; c of 0: ErrSpace.
func wantParts(t *testing.T, what string, d [][]byte, e api.Name, c int) [][]byte {
	t.Helper()
	more := wantAdd(t, what, d, e)
	if c == 0 {
		_, err := Add(d, e)
		wantNothing(t, what, more, err, api.ErrSpace)
		return nil
	}
	k := plainLeaf(d, e.Name)
	l := inOrder(append(entriesOf(d[k]), e))
	if len(d) == 1 {
		k = 1
	}
	if len(more) != max(len(d), 2)+1 || !bytes.Equal(more[k], block(l[:c])) || !bytes.Equal(more[len(more)-1], block(l[c:])) {
		t.Fatalf("%s: Add(%x, %#v): %x, want its parts to be %#v and %#v", what, d, e, more, l[:c], l[c:])
	}
	if lines := linesOf(more); !slices.Contains(lines, line{nameSum(l[c].Name), uint32(len(more) - 1)}) {
		t.Errorf("%s: Add(%x, %#v): the rows are %v, want one of sum %x", what, d, e, lines, nameSum(l[c].Name))
	}
	wantRight(t, what, more)
	return more
}

// patterned: entries of names of that length, whose sums are the pattern's digits, each so many times that far apart.
func patterned(pattern string, length int, low, apart uint32) []api.Name {
	var sums []uint32
	for _, c := range pattern {
		sums = append(sums, low+uint32(c-'0')*apart)
	}
	return entries(length, sums...)
}

func TestAddThatFits(t *testing.T) {
	for length := 1; length <= 32; length++ {
		e := api.Name{Name: strings.Repeat("m", length), Inode: 3}
		d := full(248 - 5 - length)
		if more := wantAdd(t, "just fits", d, e); len(more) != 1 {
			t.Errorf("Add of %d bytes to a leaf of %d: %d blocks", length, 248-5-length, len(more))
		}
		d = full(248 - 5 - length + 1)
		if more := wantAdd(t, "just doesn't fit", d, e); len(more) != 3 {
			t.Errorf("Add of %d bytes to a leaf of %d: %d blocks", length, 248-5-length+1, len(more))
		}
		more := wantAdd(t, "to a full leaf", full(248), e)
		wantRight(t, "a full leaf, split", more)
	}
	// With an index the leaves and the rows stay as they are, but for one.
	for _, leaves := range []int{2, 3, 30} {
		d := even(leaves)
		for k, l := range linesOf(d) {
			e := api.Name{Name: summed(l.low+9, 16, 0), Inode: 3}
			more := wantAdd(t, "fits into its leaf", d, e)
			want := cloned(d)
			want[l.block] = block(append(entriesOf(d[l.block]), e))
			if !same(more, want) {
				t.Errorf("Add into row %d of %d: %x, want %x", k, leaves, more, want)
			}
		}
	}
}

func TestSplits(t *testing.T) {
	for _, c := range []struct {
		pattern     string
		length, cut int
	}{
		{"0123456", 32, 4}, // 7 entries: the parts are 4 and 3
		{"0112233", 32, 5}, // the entries round the middle have the same sum
		{"0011122", 32, 5},
		{"0001112", 32, 6}, // the cut nearest to the middle lies ahead of it
		{"0000111", 32, 4},
		{"0000011", 32, 5},
		{"0000001", 32, 6},
		{"0122222", 32, 2}, // the only cuts lie ahead of the middle
		{"0001111", 32, 3},
		{"0011111", 32, 2},
		{"0111111", 32, 1},
		{"0000000", 32, 0},  // there is no cut
		{"01234567", 30, 4}, // 8 entries: the parts are even
		{"00112233", 30, 4},
		{"00011122", 30, 6},
		{"00000111", 30, 5},
		{"00000001", 30, 7},
		{"00011111", 30, 3},
		{"00122222", 30, 3},
		{"01222222", 30, 2},
		{"01111111", 30, 1},
		{"00000000", 30, 0},
		{"012345678", 26, 5},
		{"011111111", 26, 1}, // the other part is full
		{"000000001", 26, 8}, // the first one is
		{"000000000", 26, 0},
	} {
		for _, sums := range [][2]uint32{{0, 1}, {0, 1 << 28}, {1<<32 - 9, 1}, {1<<31 - 3, 1}} {
			l := patterned(c.pattern, c.length, sums[0], sums[1])
			for k, e := range l { // any of them is the last one that comes
				others := slices.Delete(slices.Clone(l), k, k+1)
				what := fmt.Sprintf("%s, without %d at first", c.pattern, k)
				wantParts(t, what, [][]byte{block(others)}, e, c.cut)
			}
		}
		const low, behind = 1 << 30, 1<<30 + 1<<29
		l := patterned(c.pattern, c.length, low, 1<<24)
		for k, e := range l {
			others := slices.Delete(slices.Clone(l), k, k+1)
			for number := range uint32(3) { // its leaf, between two others, is any block of the three
				d := built(part{0, number%3 + 1, entries(6, 1)}, part{low, (number+1)%3 + 1, others}, part{behind, (number+2)%3 + 1, entries(6, behind, 1<<32-1)})
				more := wantParts(t, c.pattern+" among other leaves", d, e, c.cut)
				if more == nil {
					continue
				}
				for _, other := range []uint32{number%3 + 1, (number+2)%3 + 1} {
					if !bytes.Equal(more[other], d[other]) {
						t.Errorf("%s: a leaf beside the split one is %x, was %x", c.pattern, more[other], d[other])
					}
				}
				if lines := linesOf(more); len(lines) != 4 || lines[2].block != 4 || lines[1].low != low {
					t.Errorf("%s: the rows are %v", c.pattern, lines)
				}
			}
		}
	}
}

// Parts of which one doesn't fit, or just does: names of the same sum, and one of another one ahead or behind.
func TestPartsThatDoNotFit(t *testing.T) {
	for size := 240; size <= 257; size++ { // of the greater part
		for _, small := range []uint32{10, 1000} { // the other one lies ahead, or behind
			l := entries(32, 500, 500, 500, 500, 500)
			l = append(l, api.Name{Name: summed(500, 30, 6), Inode: 5}, api.Name{Name: summed(500, size-5*37-35-5, 7), Inode: 6})
			l = append(l, api.Name{Name: summed(small, 6, 8), Inode: 7})
			if n := sizeOf(l[:7]); n != size {
				t.Fatal(n, size)
			}
			for k, e := range l {
				others := slices.Delete(slices.Clone(l), k, k+1)
				if sizeOf(others) > 248 {
					continue
				}
				d := [][]byte{block(others)}
				switch what := fmt.Sprintf("a part of %d", size); {
				case sizeOf(l) <= 248:
					wantAdd(t, what, d, e)
				case size > 248:
					wantParts(t, what, d, e, 0)
				case small == 10:
					wantParts(t, what, d, e, 1)
				default:
					wantParts(t, what, d, e, 7)
				}
			}
		}
	}
}

// Where the first cut from the middle on makes a part that doesn't fit, no other one is taken, also if its parts would fit.
func TestNoOtherCut(t *testing.T) {
	l := append(entries(32, 1, 5, 5, 5, 5, 5, 5), entries(6, 9, 9)...) // a cut at 7 makes 259 and 22, one at 1 would make 37 and 244
	for k, e := range l[:7] {
		wantParts(t, "cuts at 1 and 7", [][]byte{block(slices.Delete(slices.Clone(l), k, k+1))}, e, 0)
	}
}

// 30 leaves already: what fits is added, what doesn't isn't.
func TestAddTo30Leaves(t *testing.T) {
	for _, leaves := range []int{28, 29, 30} {
		for _, k := range []int{0, 1, leaves / 2, leaves - 1} {
			var parts []part
			for row := range leaves {
				parts = append(parts, part{step * uint32(row), uint32((row+3)%leaves + 1), nil})
			}
			low := step * uint32(k)
			parts[k].l = entries(32, low+10, low+20, low+30, low+40, low+50, low+60)
			d := built(parts...)
			for at := range uint32(7) {
				e := api.Name{Name: summed(low+10*at+5, 32, 9), Inode: 5}
				if leaves < 30 {
					wantParts(t, fmt.Sprintf("%d leaves", leaves), d, e, 4)
				} else {
					wantParts(t, "30 leaves", d, e, 0)
				}
				e = api.Name{Name: summed(low+10*at+5, 21, 9), Inode: 5} // 222 and 26
				if more := wantAdd(t, "fits", d, e); len(more) != leaves+1 {
					t.Errorf("Add of what fits to %d leaves: %d blocks", leaves, len(more))
				}
			}
			// Of other errors none is hidden by the room that there isn't.
			more, err := Add(d, parts[k].l[3])
			wantNothing(t, "a name that is there", more, err, api.ErrExist)
			more, err = Add(d, api.Name{Name: summed(low, 32, 9), Inode: -1})
			wantNothing(t, "an Inode that may not be", more, err, api.ErrArg)
		}
	}
}

// P12.1: After.

func TestOrderOfNamesOfOneSum(t *testing.T) {
	var l []api.Name
	for k, front := range []string{"\x01", "\x01\x01", "A", "Z", "a", "aa", "z", "\x7f", "\x80", "\xc3\xa4", "\xff"} {
		l = append(l, api.Name{Name: ending(front, 0x12345678), Inode: k})
	}
	l = byName(l)
	r := rand.New(rand.NewSource(120))
	for range 20 {
		d := New()
		for _, k := range r.Perm(len(l)) {
			d = added(t, d, l[k])
		}
		if got := wantAfter(t, "one sum", d, "", 99); !slices.Equal(got, l) {
			t.Errorf("After(%x): %#v, want %#v", d, got, l)
		}
		for k, e := range l {
			if got := wantAfter(t, "behind one of them", d, e.Name, 99); !slices.Equal(got, l[k+1:]) {
				t.Errorf("After(%x, %q): %#v, want %#v", d, e.Name, got, l[k+1:])
			}
		}
		wantAfter(t, "behind a name of that sum that isn't there", d, ending("b", 0x12345678), 99)
	}
}

func TestAfter(t *testing.T) {
	for _, d := range few() {
		l := plainAll(d)
		froms := []string{"", "a", "not there", "/", ".", "\x00", strings.Repeat("x", 40)}
		for _, e := range spread(l) {
			sum := nameSum(e.Name)
			froms = append(froms, e.Name, e.Name+"\x00", summed(sum-1, 8, 30), summed(sum, 8, 0), summed(sum, 8, 35), summed(sum+1, 32, 30))
		}
		for _, from := range froms {
			behind, _ := plainAfter(d, from, len(l))
			for _, n := range []int{math.MinInt, -1, 0, 1, 2, len(behind) - 1, len(behind), len(behind) + 1, len(l), 1 << 31, math.MaxInt} {
				got := wantAfter(t, "few", d, from, n)
				if want := behind[:min(max(n, 0), len(behind))]; !slices.Equal(got, want) {
					t.Errorf("After(%x, %q, %d): %#v, want %#v", d, from, n, got, want)
				}
			}
		}
		if got := wantAfter(t, "from the beginning", d, "", len(l)); !slices.Equal(got, l) {
			t.Errorf("After(%x): %#v, want %#v", d, got, l)
		}
		if len(l) > 0 {
			if got := wantAfter(t, "from the last one", d, l[len(l)-1].Name, 9); len(got) != 0 {
				t.Errorf("After(%x), from the last one: %#v", d, got)
			}
		}
	}
}

// "" stands ahead of all, of names of sum 0 too.
func TestAfterNothing(t *testing.T) {
	l := byName(append(entries(6, 0, 0, 0), api.Name{Name: ending("\x01", 0), Inode: 5}))
	d := [][]byte{block(l)}
	if got := wantAfter(t, "sum 0", d, "", 9); !slices.Equal(got, l) {
		t.Errorf("After(%x): %#v, want %#v", d, got, l)
	}
}

// Leaves that don't lie in the order of their rows.
func TestAfterOverLeavesInAnyOrder(t *testing.T) {
	r := rand.New(rand.NewSource(121))
	for _, leaves := range []int{2, 3, 4, 7, 29, 30} {
		for range 10 {
			var parts []part
			var l []api.Name
			for k, number := range r.Perm(leaves) {
				low := step * uint32(k)
				own := entries(12, low, low+7, low+step-1)
				parts = append(parts, part{low, uint32(number + 1), own})
				l = append(l, own...)
			}
			d := built(parts...)
			for _, n := range []int{1, 2, 3, 4, 10, len(l) - 1, len(l), len(l) + 1} {
				if got := wantAfter(t, "from the beginning", d, "", n); !slices.Equal(got, l[:min(n, len(l))]) {
					t.Errorf("After(%x, \"\", %d): %#v", d, n, got)
				}
				for k, e := range l {
					if got, err := After(d, e.Name, n); err != api.OK || !slices.Equal(got, l[k+1:min(k+1+n, len(l))]) {
						t.Errorf("After(%x, %q, %d): %#v, error %d", d, e.Name, n, got, err)
					}
				}
			}
		}
	}
}

// P12.1: the errors' order.

func TestOrderOfErrors(t *testing.T) {
	low := uint32(step)
	there := entries(32, low, low, low, low, low, low)
	for _, isRight := range []bool{true, false} {
		for leaves := range 31 {
			d := [][]byte{block(there)} // one leaf in which there is no room for one of the same sum more
			if leaves >= 2 {
				d = even(leaves)
				d[linesOf(d)[1].block] = block(there)
			}
			if !isRight {
				d[leaves/2][9] ^= 1
			}
			for _, name := range []string{there[2].Name, summed(low, 32, 9), "a/", ""} {
				for _, inode := range []int{5, -1, 1<<20 + 1} {
					e := api.Name{Name: name, Inode: inode}
					add, set, find := api.ErrSpace, api.ErrNone, api.ErrNone
					switch {
					case !isRight:
						add, set, find = api.ErrClean, api.ErrClean, api.ErrClean
					case len(name) < 32:
						add, set, find = api.ErrArg, api.ErrArg, api.ErrArg
					case name == there[2].Name:
						add, set, find = api.ErrExist, api.OK, api.OK
					}
					if isRight && inode != 5 {
						add, set = api.ErrArg, api.ErrArg
					}
					if _, err := Add(d, e); err != add {
						t.Errorf("Add(%x, %#v): error %d, want %d", d, e, err, add)
					}
					if _, err := Set(d, e); err != set {
						t.Errorf("Set(%x, %#v): error %d, want %d", d, e, err, set)
					}
					if _, err := Find(d, name); err != find {
						t.Errorf("Find(%x, %q): error %d, want %d", d, name, err, find)
					}
					if _, err := Remove(d, name); err != find {
						t.Errorf("Remove(%x, %q): error %d, want %d", d, name, err, find)
					}
					wantCalls(t, "errors", d, e, inode)
				}
			}
		}
	}
}

// P12.1: any blocks, any names, any numbers.

// anyBlocks: a directory that is likely not to be right: of anything, or one of the few of which something became another.
func anyBlocks(r *rand.Rand, few [][][]byte) [][]byte {
	d := cloned(few[r.Intn(len(few))])
	for range r.Intn(3) {
		if len(d) == 0 {
			break
		}
		k, other := r.Intn(len(d)), r.Intn(len(d))
		switch r.Intn(9) {
		case 0:
			d[k] = make([]byte, r.Intn(600))
			r.Read(d[k])
		case 1:
			d[k], d[other] = d[other], d[k]
		case 2:
			d[k] = d[other]
		case 3:
			d = slices.Delete(d, k, k+1)
		case 4:
			d = slices.Insert(d, k, New()[0])
		case 5:
			d[k] = d[k][:min(len(d[k]), r.Intn(300))]
		default: // sealed again
			if len(d[k]) == 256 {
				b := bytes.Clone(d[k])
				b[r.Intn(60)] = []byte{0, 1, 2, 255, byte(r.Intn(256))}[r.Intn(5)]
				d[k] = sealed(b)
			}
		}
	}
	return d
}

func TestAnyBlocks(t *testing.T) {
	r := rand.New(rand.NewSource(122))
	rights := 0
	few := few()
	for range 6000 {
		d := anyBlocks(r, few)
		e := anyEntry(r)
		if l := plainAll(d); len(l) > 0 && r.Intn(2) == 0 {
			e.Name = l[r.Intn(len(l))].Name
		}
		switch r.Intn(6) {
		case 0:
			e.Name = badNames()[r.Intn(len(badNames()))]
		case 1:
			e.Inode = noInodes()[r.Intn(len(noInodes()))]
		}
		wantCalls(t, "any blocks", d, e, []int{r.Intn(200), -1, 0, 1, int(r.Uint64())}[r.Intn(5)])
		if plainRight(d) {
			rights++
		}
	}
	if rights < 500 || rights > 5500 {
		t.Errorf("%d of 6000 are right", rights)
	}
}

// Blocks of anything whose sums are right, in directories of any length.
func TestSealedBlocks(t *testing.T) {
	r := rand.New(rand.NewSource(123))
	for range 20000 {
		d := make([][]byte, r.Intn(5))
		for k := range d {
			b := make([]byte, 256)
			if r.Intn(2) == 0 {
				r.Read(b[4:])
			}
			b[0] = byte(r.Intn(4))
			if r.Intn(2) == 0 {
				b[2], b[3] = 255, 255
			}
			d[k] = sealed(b)
		}
		wantCalls(t, "sealed blocks", d, anyEntry(r), r.Intn(9))
	}
}
