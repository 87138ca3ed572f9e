package leaf

import (
	"bytes"
	"encoding/binary"
	"hash/crc32"
	"math"
	"math/rand"
	"slices"
	"strings"
	"testing"

	"undercroft/api"
)

// The document's words once more, as plainly as can be, to hold the package against.

// plainMay: whether a name may be.
func plainMay(name string) bool {
	for _, c := range []byte(name) {
		if c == 0 || c == 47 {
			return false
		}
	}
	return name != "" && len(name) < 33 && name != "." && name != ".."
}

// plainRight: whether a list is right.
func plainRight(l []api.Name) bool {
	for k, e := range l {
		if !plainMay(e.Name) || e.Inode < 0 || e.Inode > 1048576 {
			return false
		}
		if k > 0 && bytes.Compare([]byte(l[k-1].Name), []byte(e.Name)) != -1 {
			return false
		}
	}
	return true
}

// sizeOf: the sum of 5 and the name's bytes for each entry.
func sizeOf(l []api.Name) int {
	size := 5 * len(l)
	for _, e := range l {
		size += len(e.Name)
	}
	return size
}

// plainSize: what Size is to answer.
func plainSize(l []api.Name) (int, api.Errno) {
	if !plainRight(l) {
		return 0, api.ErrArg
	}
	return sizeOf(l), api.OK
}

// plainEncode: what Encode is to answer.
func plainEncode(l []api.Name) ([]byte, api.Errno) {
	switch {
	case !plainRight(l):
		return nil, api.ErrArg
	case sizeOf(l) > 248:
		return nil, api.ErrSpace
	}
	return plainBlock(l), api.OK
}

// plainBlock: the block that tells l with a right sum, whether l is right or not (of numbers that are too great their lowest bytes, of entries as much as there is room for).
func plainBlock(l []api.Name) []byte {
	return blockOf(len(l), sizeOf(l), entriesOf(l))
}

// blockOf: the block of that number of entries, that size and these bytes of entries, as many as there is room for, with a right sum.
func blockOf(many, size int, entries []byte) []byte {
	b := make([]byte, 256)
	binary.LittleEndian.PutUint16(b[0:], uint16(many))
	binary.LittleEndian.PutUint16(b[2:], uint16(size))
	copy(b[4:252], entries)
	return sealed(b)
}

// entriesOf: the bytes of the entries of a list.
func entriesOf(l []api.Name) []byte {
	var b []byte
	for _, e := range l {
		b = append(b, entryOf(e.Inode, len(e.Name), e.Name)...)
	}
	return b
}

// entryOf: the bytes of an entry, its name being told to have that length.
func entryOf(inode, length int, name string) []byte {
	b := binary.LittleEndian.AppendUint32(nil, uint32(inode))
	return append(append(b, byte(length)), name...)
}

// sealed: 256 bytes like b, of which the last four are the sum of those ahead.
func sealed(b []byte) []byte {
	like := bytes.Clone(b)
	binary.LittleEndian.PutUint32(like[252:], sumOf(b[:252]))
	return like
}

// sumOf: the sum of bytes.
func sumOf(b []byte) uint32 { return crc32.Checksum(b, crc32.MakeTable(crc32.Castagnoli)) }

// plainDecode: what Decode is to answer.
func plainDecode(b []byte) ([]api.Name, api.Errno) {
	if len(b) != 256 || binary.LittleEndian.Uint32(b[252:]) != sumOf(b[:252]) {
		return nil, api.ErrClean
	}
	var l []api.Name
	at := 4
	for range binary.LittleEndian.Uint16(b[0:]) {
		if at+5 > 252 || at+5+int(b[at+4]) > 252 {
			return nil, api.ErrClean
		}
		length := int(b[at+4])
		l = append(l, api.Name{Name: string(b[at+5 : at+5+length]), Inode: int(binary.LittleEndian.Uint32(b[at:]))})
		at += 5 + length
	}
	behind := make([]byte, 252-at)
	if !plainRight(l) || int(binary.LittleEndian.Uint16(b[2:])) != at-4 || !bytes.Equal(b[at:252], behind) {
		return nil, api.ErrClean
	}
	return l, api.OK
}

// wantMay, wantSize, wantEncode and wantDecode: the call answers as the document says.

func wantMay(t *testing.T, name string) {
	t.Helper()
	if May(name) != plainMay(name) {
		t.Errorf("May(%q): %v, want %v", name, May(name), plainMay(name))
	}
}

func wantSize(t *testing.T, l []api.Name) {
	t.Helper()
	want, wanted := plainSize(l)
	if size, err := Size(l); size != want || err != wanted {
		t.Errorf("Size(%#v): %d, error %d, want %d, error %d", l, size, err, want, wanted)
	}
}

func wantEncode(t *testing.T, l []api.Name) {
	t.Helper()
	want, wanted := plainEncode(l)
	if b, err := Encode(l); err != wanted || !bytes.Equal(b, want) {
		t.Errorf("Encode(%#v): %x, error %d, want %x, error %d", l, b, err, want, wanted)
	}
}

func wantDecode(t *testing.T, what string, b []byte) {
	t.Helper()
	want, wanted := plainDecode(b)
	if l, err := Decode(b); err != wanted || !slices.Equal(l, want) {
		t.Errorf("%s: Decode(%x): %#v, error %d, want %#v, error %d", what, b, l, err, want, wanted)
	}
}

// wantRefused: Size refuses l, since it isn't right, and Encode does.
func wantRefused(t *testing.T, what string, l []api.Name) {
	t.Helper()
	if size, err := Size(l); size != 0 || err != api.ErrArg {
		t.Errorf("%s: Size(%#v): %d, error %d, want 0, error %d", what, l, size, err, api.ErrArg)
	}
	if b, err := Encode(l); len(b) != 0 || err != api.ErrArg {
		t.Errorf("%s: Encode(%#v): %x, error %d, want no bytes, error %d", what, l, b, err, api.ErrArg)
	}
}

// wantNoRoom: l is right and has that size, but doesn't fit.
func wantNoRoom(t *testing.T, what string, l []api.Name, size int) {
	t.Helper()
	if got, err := Size(l); got != size || err != api.OK {
		t.Errorf("%s: Size(%#v): %d, error %d, want %d", what, l, got, err, size)
	}
	if b, err := Encode(l); len(b) != 0 || err != api.ErrSpace {
		t.Errorf("%s: Encode(%#v): %x, error %d, want no bytes, error %d", what, l, b, err, api.ErrSpace)
	}
}

// wantTaken: l is right and has that size, fits, and is read again.
func wantTaken(t *testing.T, what string, l []api.Name, size int) {
	t.Helper()
	if got, err := Size(l); got != size || err != api.OK {
		t.Errorf("%s: Size(%#v): %d, error %d, want %d", what, l, got, err, size)
	}
	b := encoded(t, l)
	if !bytes.Equal(b, plainBlock(l)) {
		t.Errorf("%s: Encode(%#v): %x, want %x", what, l, b, plainBlock(l))
	}
	wantRead(t, what, b, l)
}

// wantRead: Decode of b answers l.
func wantRead(t *testing.T, what string, b []byte, l []api.Name) {
	t.Helper()
	if got, err := Decode(b); err != api.OK || !slices.Equal(got, l) {
		t.Errorf("%s: Decode(%x): %#v, error %d, want %#v", what, b, got, err, l)
	}
}

// wantUnread: Decode of b answers ErrClean alone.
func wantUnread(t *testing.T, what string, b []byte) {
	t.Helper()
	if l, err := Decode(b); err != api.ErrClean || len(l) != 0 {
		t.Errorf("%s: Decode(%x): %#v, error %d, want no entries, error %d", what, b, l, err, api.ErrClean)
	}
}

// encoded: the block of l, which is right and fits.
func encoded(t *testing.T, l []api.Name) []byte {
	t.Helper()
	b, err := Encode(l)
	if err != api.OK || len(b) != 256 {
		t.Fatalf("Encode(%#v): %d bytes, error %d", l, len(b), err)
	}
	return b
}

// one: a list of one entry.
func one(name string, inode int) []api.Name { return []api.Name{{Name: name, Inode: inode}} }

// named: a list of these names, the inodes being 1, 2 and so on.
func named(names ...string) []api.Name {
	var l []api.Name
	for k, name := range names {
		l = append(l, api.Name{Name: name, Inode: k + 1})
	}
	return l
}

// long: a right list of so many names of so many bytes.
func long(many, length int) []api.Name {
	var l []api.Name
	for k := range many {
		l = append(l, api.Name{Name: string(rune('A'+k)) + strings.Repeat("x", length-1), Inode: 1000 + k})
	}
	return l
}

// sized: a right list of that size, of names of one byte and, at its end, of one that makes up what is left. (No size from 1 to 5 is one.)
func sized(size int) []api.Name {
	var l []api.Name
	for k := 0; size >= 12; k++ {
		l = append(l, api.Name{Name: string([]byte{byte('0' + k)}), Inode: k})
		size -= 6
	}
	if size > 0 {
		l = append(l, api.Name{Name: "z" + strings.Repeat("z", size-6), Inode: 1 << 20})
	}
	return l
}

// without: l without its entry k.
func without(l []api.Name, k int) []api.Name { return slices.Delete(slices.Clone(l), k, k+1) }

// few: right lists of all kinds that fit, for tests that are long for each.
func few() [][]api.Name {
	return [][]api.Name{
		nil,
		one("a", 5),
		one("a", 0),
		one(strings.Repeat("\xff", 32), 1<<20),
		named("a", "ab", "abc", "b"),
		named("...", ".a", "a.", "a..", "\x80", "\xff"),
		named("\x01", "\x01\x01", ".\x01", "0", "\xc3\xa4", "\xe2\x82"),
		{{Name: "x", Inode: 0}, {Name: "y", Inode: 0}, {Name: "z", Inode: 0}},
		{{Name: "x", Inode: 77}, {Name: "y", Inode: 1 << 20}, {Name: "z", Inode: 77}},
		long(6, 32),
		long(7, 30),
		sized(247),
		sized(248),
	}
}

// inodes: those that an entry may have.
func inodes() []int {
	return []int{0, 1, 2, 5, 127, 128, 255, 256, 257, 65535, 65536, 1 << 16, 0x12345, 1 << 19, 1<<20 - 1, 1 << 20}
}

// noInodes: those that none has; of some the lowest bytes are those of one that may be.
func noInodes() []int {
	return []int{
		math.MinInt, math.MinInt + 1, math.MinInt + 5, math.MinInt + 1<<20, -1 << 32, -1<<32 + 5, -1 << 31, -1<<31 + 5, -1<<20 - 1, -1 << 20, -256, -5, -2, -1,
		1<<20 + 1, 1<<20 + 2, 1 << 21, 1 << 24, 1<<31 - 1, 1 << 31, 1<<32 - 1, 1 << 32, 1<<32 + 1, 1<<32 + 5, 1<<32 + 1<<20, 1 << 62, math.MaxInt - 1<<20, math.MaxInt - 1, math.MaxInt,
	}
}

// goodNames: names that may be, at their edges.
func goodNames() []string {
	return []string{
		"a", "\x01", "\x2e\x2e\x2e", "...", "....", "a.", ".a", "..a", "a..", ". ", ".\x01", "-", "0", " ", "\n", "\\", "\x7f", "\x80", "\xff", "\xff\xfe", "\xc3", "\xc0\xaf", "ä", "\u2044", "\u002e\u0301",
		"aa", strings.Repeat("a", 31), strings.Repeat("a", 32), strings.Repeat(".", 32), strings.Repeat("\x01", 32), strings.Repeat("\xff", 31), strings.Repeat("ä", 16),
	}
}

// badNames: names that may not be, at their edges.
func badNames() []string {
	l := []string{"", ".", "..", "/", "\x00", "//", "\x00\x00", "/.", "./", "../", "/..", ".\x00", "..\x00", strings.Repeat("a", 33), strings.Repeat(".", 33), strings.Repeat("ä", 17), strings.Repeat("a", 64), strings.Repeat("a", 255), strings.Repeat("a", 256), strings.Repeat("a", 257), strings.Repeat("a", 256+5), strings.Repeat("a", 65536+1)}
	for _, c := range []string{"\x00", "/"} {
		for _, n := range []int{2, 3, 9, 31, 32, 33} {
			name := strings.Repeat("n", n-1)
			l = append(l, c+name, name+c, name[:n/2]+c+name[n/2:], "\xff"+c, "\xc3"+c, c+"\xa4")
		}
	}
	return l
}

// anyName: a name that may be, of few letters (so that some are another's beginning) or of many.
func anyName(r *rand.Rand) string {
	for {
		b := make([]byte, 1+r.Intn(32)>>r.Intn(5))
		for k := range b {
			switch r.Intn(3) {
			case 0:
				b[k] = "ab.\x01\x7f\x80\xff"[r.Intn(7)]
			case 1:
				b[k] = 'a'
			default:
				b[k] = byte(r.Intn(256))
			}
		}
		if plainMay(string(b)) {
			return string(b)
		}
	}
}

// anyInode: one that may be.
func anyInode(r *rand.Rand) int {
	if r.Intn(3) == 0 {
		return inodes()[r.Intn(len(inodes()))]
	}
	return r.Intn(1<<20 + 1)
}

// anyRight: a right list of names up to so many, which may be too many to fit.
func anyRight(r *rand.Rand, most int) []api.Name {
	var l []api.Name
	for range r.Intn(most + 1) {
		l = append(l, api.Name{Name: anyName(r), Inode: anyInode(r)})
	}
	slices.SortFunc(l, func(a, b api.Name) int { return strings.Compare(a.Name, b.Name) })
	return slices.CompactFunc(l, func(a, b api.Name) bool { return a.Name == b.Name })
}

// anyFitting: a right list that fits.
func anyFitting(r *rand.Rand) []api.Name {
	l := anyRight(r, 1+r.Intn(41))
	for sizeOf(l) > 248 {
		l = without(l, r.Intn(len(l)))
	}
	return l
}

// anyAtAll: a right list of which some entries became anything.
func anyAtAll(r *rand.Rand) []api.Name {
	l := anyRight(r, 1+r.Intn(50))
	for range r.Intn(3) {
		if len(l) == 0 {
			break
		}
		k, other := r.Intn(len(l)), r.Intn(len(l))
		switch r.Intn(6) {
		case 0:
			l[k].Name = badNames()[r.Intn(len(badNames()))]
		case 1:
			l[k].Inode = noInodes()[r.Intn(len(noInodes()))]
		case 2:
			l[k], l[other] = l[other], l[k]
		case 3:
			l[k].Name = l[other].Name
		case 4:
			l[k].Name += "\x01"
		case 5:
			l[k].Inode = int(r.Uint64())
		}
	}
	return l
}
