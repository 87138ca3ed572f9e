package htree

import (
	"bytes"
	"encoding/binary"
	"hash/crc32"
	"math"
	"math/rand"
	"slices"
	"strings"
	"testing"

	"undercroft/api"
	"undercroft/leaf"
)

// The document's words once more, as plainly as can be, to hold the package against. (Leaves are layer 11's, which has tests of its own.)

// sumOf: the sum of bytes.
func sumOf(b []byte) uint32 { return crc32.Checksum(b, castagnoli) }

var castagnoli = crc32.MakeTable(crc32.Castagnoli)

// nameSum: the sum of a name.
func nameSum(name string) uint32 { return sumOf([]byte(name)) }

// ahead: whether a stands ahead of b in order.
func ahead(a, b string) bool {
	if nameSum(a) == nameSum(b) {
		return a < b
	}
	return nameSum(a) < nameSum(b)
}

// inOrder, byName: entries like l, in order, or by rising names.

func inOrder(l []api.Name) []api.Name {
	type summed struct {
		sum uint32
		e   api.Name
	}
	var all []summed
	for _, e := range l {
		all = append(all, summed{nameSum(e.Name), e})
	}
	slices.SortFunc(all, func(a, b summed) int {
		switch {
		case a.sum < b.sum:
			return -1
		case a.sum > b.sum:
			return 1
		}
		return strings.Compare(a.e.Name, b.e.Name)
	})
	var ordered []api.Name
	for _, s := range all {
		ordered = append(ordered, s.e)
	}
	return ordered
}

func byName(l []api.Name) []api.Name {
	l = slices.Clone(l)
	slices.SortFunc(l, func(a, b api.Name) int { return strings.Compare(a.Name, b.Name) })
	return l
}

// A line is a row of an index.
type line struct {
	low   uint32
	block uint32
}

// sealed: 256 bytes like b, of which the last four are the sum of those ahead.
func sealed(b []byte) []byte {
	like := bytes.Clone(b)
	binary.LittleEndian.PutUint32(like[252:], sumOf(like[:252]))
	return like
}

// indexBlock: the index of these rows, with a right sum, whether it may be or not.
func indexBlock(lines ...line) []byte {
	b := make([]byte, 256)
	binary.LittleEndian.PutUint16(b[0:], uint16(len(lines)))
	binary.LittleEndian.PutUint16(b[2:], 65535)
	for k, l := range lines {
		binary.LittleEndian.PutUint32(b[4+8*k:], l.low)
		binary.LittleEndian.PutUint32(b[8+8*k:], l.block)
	}
	return sealed(b)
}

// plainIndex: the rows of the index that b is.
func plainIndex(b []byte) ([]line, bool) {
	if len(b) != 256 || binary.LittleEndian.Uint32(b[252:]) != sumOf(b[:252]) {
		return nil, false
	}
	n := int(binary.LittleEndian.Uint16(b[0:]))
	if n < 2 || n > 30 || b[2] != 255 || b[3] != 255 {
		return nil, false
	}
	var lines []line
	for k := range n {
		lines = append(lines, line{binary.LittleEndian.Uint32(b[4+8*k:]), binary.LittleEndian.Uint32(b[8+8*k:])})
	}
	for _, c := range b[4+8*n : 252] {
		if c != 0 {
			return nil, false
		}
	}
	return lines, true
}

// plainRight: whether a directory is right.
func plainRight(d [][]byte) bool {
	if len(d) < 1 || len(d) > 31 {
		return false
	}
	for k, b := range d {
		_, err := leaf.Decode(b)
		if _, is := plainIndex(b); k == 0 && len(d) > 1 && !is || (k > 0 || len(d) == 1) && err != api.OK {
			return false
		}
	}
	if len(d) == 1 {
		return true
	}
	lines, _ := plainIndex(d[0])
	if len(lines) != len(d)-1 || lines[0].low != 0 {
		return false
	}
	for number := range lines {
		if !slices.ContainsFunc(lines, func(l line) bool { return l.block == uint32(number+1) }) {
			return false
		}
	}
	for k, l := range lines {
		behind := uint64(1 << 32)
		if k+1 < len(lines) {
			behind = uint64(lines[k+1].low)
		}
		if uint64(l.low) >= behind {
			return false
		}
		for _, e := range entriesOf(d[l.block]) {
			if nameSum(e.Name) < l.low || uint64(nameSum(e.Name)) >= behind {
				return false
			}
		}
	}
	return true
}

// entriesOf: the entries of a leaf.
func entriesOf(b []byte) []api.Name {
	l, _ := leaf.Decode(b)
	return l
}

// plainAll: the entries of a right directory, in order.
func plainAll(d [][]byte) []api.Name {
	var l []api.Name
	for _, b := range d {
		l = append(l, entriesOf(b)...) // of an index there are none
	}
	return inOrder(l)
}

// plainLeaf: which block of a right directory is the leaf of a name.
func plainLeaf(d [][]byte, name string) int {
	block := uint32(0)
	if len(d) > 1 {
		lines, _ := plainIndex(d[0])
		for _, l := range lines {
			if l.low <= nameSum(name) {
				block = l.block
			}
		}
	}
	return int(block)
}

// plainMay: whether an entry may be as e is.
func plainMay(e api.Name) bool { return leaf.May(e.Name) && e.Inode >= 0 && e.Inode <= 1048576 }

// plainPlace: where the entry of that name stands in l; -1: there is none.
func plainPlace(l []api.Name, name string) int {
	return slices.IndexFunc(l, func(e api.Name) bool { return e.Name == name })
}

// plainTurned: a directory like d, with l in that leaf.
func plainTurned(d [][]byte, block int, l []api.Name) [][]byte {
	d = cloned(d)
	d[block], _ = leaf.Encode(byName(l))
	return d
}

// cloned: a directory like d, in other memory.
func cloned(d [][]byte) [][]byte {
	var like [][]byte
	for _, b := range d {
		like = append(like, bytes.Clone(b))
	}
	return like
}

// plainWhy: why a call on d by e's name can't be, but for room.
func plainWhy(d [][]byte, e api.Name, toBeThere bool) api.Errno {
	switch {
	case !plainRight(d):
		return api.ErrClean
	case !plainMay(e):
		return api.ErrArg
	case plainPlace(plainAll(d), e.Name) >= 0 && !toBeThere:
		return api.ErrExist
	case plainPlace(plainAll(d), e.Name) < 0 && toBeThere:
		return api.ErrNone
	}
	return api.OK
}

func plainCheck(d [][]byte) api.Errno {
	if plainRight(d) {
		return api.OK
	}
	return api.ErrClean
}

func plainFind(d [][]byte, name string) (int, api.Errno) {
	if err := plainWhy(d, api.Name{Name: name}, true); err != api.OK {
		return 0, err
	}
	l := plainAll(d)
	return l[plainPlace(l, name)].Inode, api.OK
}

func plainRemove(d [][]byte, name string) ([][]byte, api.Errno) {
	if err := plainWhy(d, api.Name{Name: name}, true); err != api.OK {
		return nil, err
	}
	block := plainLeaf(d, name)
	l := entriesOf(d[block])
	at := plainPlace(l, name)
	return plainTurned(d, block, slices.Delete(l, at, at+1)), api.OK
}

func plainSet(d [][]byte, e api.Name) ([][]byte, api.Errno) {
	if err := plainWhy(d, e, true); err != api.OK {
		return nil, err
	}
	block := plainLeaf(d, e.Name)
	l := entriesOf(d[block])
	l[plainPlace(l, e.Name)] = e
	return plainTurned(d, block, l), api.OK
}

func plainAdd(d [][]byte, e api.Name) ([][]byte, api.Errno) {
	if err := plainWhy(d, e, false); err != api.OK {
		return nil, err
	}
	block := plainLeaf(d, e.Name)
	l := append(entriesOf(d[block]), e)
	if sizeOf(l) <= 248 {
		return plainTurned(d, block, l), api.OK
	}
	l = inOrder(l)
	c := plainCut(l)
	if c == 0 || sizeOf(l[:c]) > 248 || sizeOf(l[c:]) > 248 || len(d) == 31 {
		return nil, api.ErrSpace
	}
	return plainSplit(d, block, l, c), api.OK
}

// sizeOf: the size of a list.
func sizeOf(l []api.Name) int {
	size := 5 * len(l)
	for _, e := range l {
		size += len(e.Name)
	}
	return size
}

// plainCut: where entries in order are cut; 0: nowhere.
func plainCut(l []api.Name) int {
	m := len(l)
	below := 0
	for c := 1; c <= m-1; c++ {
		if nameSum(l[c].Name) == nameSum(l[c-1].Name) {
			continue
		}
		if c >= (m+1)/2 {
			return c
		}
		below = c
	}
	return below
}

// plainSplit: a directory like d, in which the first c entries of l stay in that block, and the others have a new one.
func plainSplit(d [][]byte, block int, l []api.Name, c int) [][]byte {
	low := nameSum(l[c].Name)
	if len(d) == 1 {
		first := plainTurned(d, 0, l[:c])[0]
		others := plainTurned(d, 0, l[c:])[0]
		return [][]byte{indexBlock(line{0, 1}, line{low, 2}), first, others}
	}
	lines, _ := plainIndex(d[0])
	lines = append(lines, line{low, uint32(len(d))})
	slices.SortFunc(lines, func(a, b line) int {
		if a.low < b.low {
			return -1
		}
		return 1
	})
	more := append(plainTurned(d, block, l[:c]), nil)
	more = plainTurned(more, len(d), l[c:])
	more[0] = indexBlock(lines...)
	return more
}

func plainAfter(d [][]byte, name string, n int) ([]api.Name, api.Errno) {
	if !plainRight(d) {
		return nil, api.ErrClean
	}
	var l []api.Name
	for _, e := range plainAll(d) {
		if (name == "" || ahead(name, e.Name)) && len(l) < n {
			l = append(l, e)
		}
	}
	return l, api.OK
}

// same: whether two directories have the same blocks.
func same(a, b [][]byte) bool { return slices.EqualFunc(a, b, bytes.Equal) }

// wantCheck, wantFind, wantAdd, wantRemove, wantSet and wantAfter: the call answers as the document says. (Those that tell a directory tell it again.)

func wantCheck(t *testing.T, what string, d [][]byte) {
	t.Helper()
	if err := Check(d); err != plainCheck(d) {
		t.Errorf("%s: Check(%x): error %d, want %d", what, d, err, plainCheck(d))
	}
}

func wantFind(t *testing.T, what string, d [][]byte, name string) {
	t.Helper()
	want, wanted := plainFind(d, name)
	if inode, err := Find(d, name); inode != want || err != wanted {
		t.Errorf("%s: Find(%x, %q): %d, error %d, want %d, error %d", what, d, name, inode, err, want, wanted)
	}
}

func wantAdd(t *testing.T, what string, d [][]byte, e api.Name) [][]byte {
	t.Helper()
	want, wanted := plainAdd(d, e)
	got, err := Add(d, e)
	if err != wanted || !same(got, want) {
		t.Errorf("%s: Add(%x, %#v): %x, error %d, want %x, error %d", what, d, e, got, err, want, wanted)
	}
	return got
}

func wantRemove(t *testing.T, what string, d [][]byte, name string) [][]byte {
	t.Helper()
	want, wanted := plainRemove(d, name)
	got, err := Remove(d, name)
	if err != wanted || !same(got, want) {
		t.Errorf("%s: Remove(%x, %q): %x, error %d, want %x, error %d", what, d, name, got, err, want, wanted)
	}
	return got
}

func wantSet(t *testing.T, what string, d [][]byte, e api.Name) [][]byte {
	t.Helper()
	want, wanted := plainSet(d, e)
	got, err := Set(d, e)
	if err != wanted || !same(got, want) {
		t.Errorf("%s: Set(%x, %#v): %x, error %d, want %x, error %d", what, d, e, got, err, want, wanted)
	}
	return got
}

func wantAfter(t *testing.T, what string, d [][]byte, name string, n int) []api.Name {
	t.Helper()
	want, wanted := plainAfter(d, name, n)
	got, err := After(d, name, n)
	if err != wanted || !slices.Equal(got, want) {
		t.Errorf("%s: After(%x, %q, %d): %#v, error %d, want %#v, error %d", what, d, name, n, got, err, want, wanted)
	}
	return got
}

// wantCalls: each call on d, by e and n, answers as the document says.
func wantCalls(t *testing.T, what string, d [][]byte, e api.Name, n int) {
	t.Helper()
	was := cloned(d)
	wantCheck(t, what, d)
	wantFind(t, what, d, e.Name)
	wantAdd(t, what, d, e)
	wantRemove(t, what, d, e.Name)
	wantSet(t, what, d, e)
	wantAfter(t, what, d, e.Name, n)
	if !same(d, was) {
		t.Errorf("%s: a call by %#v changes %x, which was %x", what, e, d, was)
	}
}

// wantRight: d is right, by the document's words too.
func wantRight(t *testing.T, what string, d [][]byte) {
	t.Helper()
	if err := Check(d); err != api.OK || !plainRight(d) {
		t.Errorf("%s: Check(%x): error %d, and by the document's words %d, want none", what, d, err, plainCheck(d))
	}
}

// wantRefused: d isn't right, and each call tells that alone, whatever it is called with.
func wantRefused(t *testing.T, what string, d [][]byte) {
	t.Helper()
	if plainRight(d) {
		t.Errorf("%s: %x is right by the document's words", what, d)
	}
	if err := Check(d); err != api.ErrClean {
		t.Errorf("%s: Check(%x): error %d, want %d", what, d, err, api.ErrClean)
	}
	for _, e := range []api.Name{{Name: "a", Inode: 5}, {Name: "not there", Inode: 5}, {Name: "", Inode: 5}, {Name: "a/", Inode: 5}, {Name: "a", Inode: -1}} {
		if inode, err := Find(d, e.Name); inode != 0 || err != api.ErrClean {
			t.Errorf("%s: Find(%x, %q): %d, error %d, want error %d", what, d, e.Name, inode, err, api.ErrClean)
		}
		added, err := Add(d, e)
		wantNothing(t, what+": Add", added, err, api.ErrClean)
		removed, err := Remove(d, e.Name)
		wantNothing(t, what+": Remove", removed, err, api.ErrClean)
		set, err := Set(d, e)
		wantNothing(t, what+": Set", set, err, api.ErrClean)
		for _, n := range []int{-1, 0, 1, 99} {
			if l, err := After(d, e.Name, n); len(l) != 0 || err != api.ErrClean {
				t.Errorf("%s: After(%x, %q, %d): %#v, error %d, want error %d", what, d, e.Name, n, l, err, api.ErrClean)
			}
		}
	}
}

// wantNothing: a call answered just that error.
func wantNothing(t *testing.T, what string, d [][]byte, err, want api.Errno) {
	t.Helper()
	if len(d) != 0 || err != want {
		t.Errorf("%s: %x, error %d, want nothing, error %d", what, d, err, want)
	}
}

const digits = "0123456789abcdefghijklmnopqrstuvwxyz"

// ending: a name of that sum that begins with front, behind which it has five bytes.
func ending(front string, sum uint32) string {
	// The last four bytes, which lead from the word of what is ahead to that of the sum, are found by going back from this one over four noughts.
	word := ^sum
	for range 4 {
		at := slices.IndexFunc(castagnoli[:], func(w uint32) bool { return w>>24 == word>>24 })
		word = (word^castagnoli[at])<<8 | uint32(at)
	}
	for _, c := range digits {
		start := front + string(c)
		name := string(binary.LittleEndian.AppendUint32([]byte(start), word^^nameSum(start)))
		if leaf.May(name) && nameSum(name) == sum {
			return name
		}
	}
	panic("there is no such name")
}

// summed: a name of that many bytes (6 at least) that has that sum; another one for each k below 36.
func summed(sum uint32, length, k int) string {
	return ending(strings.Repeat("n", length-6)+digits[k:k+1], sum)
}

// entries: entries of names of those sums and that length, each with another k.
func entries(length int, sums ...uint32) []api.Name {
	var l []api.Name
	for k, sum := range sums {
		l = append(l, api.Name{Name: summed(sum, length, k), Inode: 100 + k})
	}
	return l
}

// A part is a row of an index and the entries of its leaf.
type part struct {
	low   uint32
	block uint32
	l     []api.Name
}

// built: the directory of these parts, whether it is right or not.
func built(parts ...part) [][]byte {
	d := make([][]byte, len(parts)+1)
	var lines []line
	for _, p := range parts {
		lines = append(lines, line{p.low, p.block})
		d[p.block] = block(p.l)
	}
	d[0] = indexBlock(lines...)
	return d
}

// block: the leaf of these entries.
func block(l []api.Name) []byte {
	b, err := leaf.Encode(byName(l))
	if err != api.OK {
		panic("there is no such leaf")
	}
	return b
}

// added: d with these entries, one after the other.
func added(t *testing.T, d [][]byte, l ...api.Name) [][]byte {
	t.Helper()
	for _, e := range l {
		more, err := Add(d, e)
		if err != api.OK {
			t.Fatalf("Add(%x, %#v): error %d", d, e, err)
		}
		d = more
	}
	return d
}

// step is how far the lowest sums of even's rows are apart.
const step = 1 << 32 / 32

// even: a right directory of so many leaves, from 2 to 30, each with a few entries, at the edges of its sums too; the leaves lie in an order that isn't the rows'.
func even(leaves int) [][]byte {
	var parts []part
	for k := range leaves {
		low := uint32(step * k)
		number := uint32(k*7%leaves + 1)
		if leaves%7 == 0 {
			number = uint32(leaves - k)
		}
		parts = append(parts, part{low, number, entries(8, low, low+1, low+step/2, low+step-1)})
	}
	return built(parts...)
}

// full: a directory of one leaf of that size, which is 248 or a little less, and all whose names' sums are that far apart.
func full(size int) [][]byte {
	var l []api.Name
	for k := range 5 {
		l = append(l, api.Name{Name: summed(uint32(1000*k), 32, k), Inode: k})
	}
	for rest := size - 185; rest >= 22; rest -= 11 {
		l = append(l, api.Name{Name: summed(uint32(1000*len(l)), 6, len(l)), Inode: len(l)})
	}
	return [][]byte{block(append(l, api.Name{Name: summed(uint32(1000*len(l)), size-sizeOf(l)-5, 0), Inode: 77}))}
}

// few: right directories of all kinds, for tests that are long for each.
func few() [][][]byte {
	return [][][]byte{
		New(),
		{block([]api.Name{{Name: "a", Inode: 5}})},
		{block(entries(9, 0, 1, 1<<31, 1<<31, 1<<32-1))},
		full(248),
		built(part{0, 1, nil}, part{1, 2, nil}),
		built(part{0, 2, entries(7, 0, 5, 999)}, part{1000, 1, entries(32, 1000, 1000, 1001, 1<<32-2, 1<<32-1, 1<<32-1)}),
		built(part{0, 3, entries(7, 4, 5)}, part{1 << 31, 1, nil}, part{1<<32 - 1, 2, entries(12, 1<<32-1, 1<<32-1)}),
		even(3),
		even(29),
		even(30),
	}
}

// goodNames: names that may be, at their edges.
func goodNames() []string {
	return []string{"a", "b", "\x01", "...", ".a", "a.", " ", "\xff", "ä", strings.Repeat("a", 31), strings.Repeat("a", 32), strings.Repeat("\xff", 32)}
}

// badNames: names that may not be, at their edges.
func badNames() []string {
	return []string{"", ".", "..", "/", "\x00", "a/", "/a", "a\x00", "\x00a", "a/b", strings.Repeat("a", 33), strings.Repeat("a", 256), strings.Repeat("a", 256+5), strings.Repeat("/", 70000)}
}

// noInodes: Inodes that no entry has.
func noInodes() []int {
	return []int{math.MinInt, -1 << 32, -1<<32 + 5, -1 << 20, -2, -1, 1<<20 + 1, 1<<20 + 2, 1 << 21, 1<<31 - 1, 1 << 31, 1 << 32, 1<<32 + 5, math.MaxInt}
}

// anyName: a name that may be, of few letters or of many; now and then one of a sum that another one has.
func anyName(r *rand.Rand) string {
	switch r.Intn(5) {
	case 0:
		return summed(uint32(r.Intn(8))<<29, []int{6, 9, 27, 32}[r.Intn(4)], r.Intn(12))
	case 1:
		return "a" + strings.Repeat("b", r.Intn(32))
	}
	b := make([]byte, 1+r.Intn(32)>>r.Intn(4))
	for k := range b {
		b[k] = byte(1 + r.Intn(255))
	}
	if name := string(b); leaf.May(name) {
		return name
	}
	return anyName(r)
}

// anyEntry: an entry that may be; its Inode is often one of the edges.
func anyEntry(r *rand.Rand) api.Name {
	return api.Name{Name: anyName(r), Inode: []int{0, 1, 1<<20 - 1, 1 << 20, r.Intn(1 << 20)}[r.Intn(5)]}
}
