package attr

import (
	"bytes"
	"encoding/binary"
	"hash/crc32"
	"math/rand"
	"slices"
	"sort"
	"strings"
	"testing"

	"undercroft/api"
)

// The document's words once more, as plainly as can be, to hold the package against.

// plainMay: whether an attribute may be.
func plainMay(p api.Pair) bool {
	return p.Name != "" && len(p.Name) < 17 && len(p.Value) < 65
}

// plainRight: whether a list is right.
func plainRight(l []api.Pair) bool {
	for k, p := range l {
		if !plainMay(p) {
			return false
		}
		if k > 0 && bytes.Compare([]byte(l[k-1].Name), []byte(p.Name)) != -1 {
			return false
		}
	}
	return true
}

// sizeOf: the sum of 2, the Name's and the Value's bytes, for each attribute.
func sizeOf(l []api.Pair) int {
	size := 2 * len(l)
	for _, p := range l {
		size += len(p.Name + p.Value)
	}
	return size
}

// plainEncode: what Encode is to answer.
func plainEncode(l []api.Pair) ([]byte, api.Errno) {
	switch {
	case !plainRight(l):
		return nil, api.ErrArg
	case sizeOf(l) > 250:
		return nil, api.ErrAttr
	}
	return plainBlock(l), api.OK
}

// plainBlock: the block that tells l with a right sum, whether l is right or not (of numbers that are too great their lowest bytes, of attributes as much as there is room for).
func plainBlock(l []api.Pair) []byte { return blockOf(len(l), pairsOf(l)) }

// blockOf: the block of that number of attributes and these bytes of them, as many as there is room for, with a right sum.
func blockOf(many int, pairs []byte) []byte {
	b := make([]byte, 256)
	binary.LittleEndian.PutUint16(b, uint16(many))
	copy(b[2:252], pairs)
	return sealed(b)
}

// pairsOf: the bytes of the attributes of a list.
func pairsOf(l []api.Pair) []byte {
	var b []byte
	for _, p := range l {
		b = append(b, pairOf(len(p.Name), len(p.Value), p.Name+p.Value)...)
	}
	return b
}

// pairOf: the bytes of an attribute, its Name and its Value being told to have these lengths.
func pairOf(name, value int, text string) []byte {
	return append([]byte{byte(name), byte(value)}, text...)
}

// sealed: 256 bytes like b, of which the last four are the sum of those ahead.
func sealed(b []byte) []byte {
	like := bytes.Clone(b)
	binary.LittleEndian.PutUint32(like[252:], sumOf(b[:252]))
	return like
}

// sumOf: the sum of bytes.
func sumOf(b []byte) uint32 { return crc32.Checksum(b, crc32.MakeTable(crc32.Castagnoli)) }

// plainDecode: what Decode is to answer.
func plainDecode(b []byte) ([]api.Pair, api.Errno) {
	if len(b) != 256 || binary.LittleEndian.Uint32(b[252:]) != sumOf(b[:252]) {
		return nil, api.ErrClean
	}
	var l []api.Pair
	at := 2
	for range binary.LittleEndian.Uint16(b) {
		if at+2 > 252 || at+2+int(b[at])+int(b[at+1]) > 252 {
			return nil, api.ErrClean
		}
		name := at + 2
		value := name + int(b[at])
		end := value + int(b[at+1])
		l = append(l, api.Pair{Name: string(b[name:value]), Value: string(b[value:end])})
		at = end
	}
	if !plainRight(l) || !bytes.Equal(b[at:252], make([]byte, 252-at)) {
		return nil, api.ErrClean
	}
	return l, api.OK
}

// plainTable: the attributes of a list by their Names.
func plainTable(l []api.Pair) map[string]string {
	table := map[string]string{}
	for _, p := range l {
		table[p.Name] = p.Value
	}
	return table
}

// plainList: the list of these attributes.
func plainList(table map[string]string) []api.Pair {
	var names []string
	for name := range table {
		names = append(names, name)
	}
	sort.Strings(names)
	var l []api.Pair
	for _, name := range names {
		l = append(l, api.Pair{Name: name, Value: table[name]})
	}
	return l
}

// plainSet: what Set is to answer.
func plainSet(l []api.Pair, p api.Pair) ([]api.Pair, api.Errno) {
	if !plainRight(l) || !plainMay(p) {
		return nil, api.ErrArg
	}
	table := plainTable(l)
	table[p.Name] = p.Value
	out := plainList(table)
	if sizeOf(out) > 250 {
		return nil, api.ErrAttr
	}
	return out, api.OK
}

// plainDrop: what Drop is to answer.
func plainDrop(l []api.Pair, name string) ([]api.Pair, api.Errno) {
	if !plainRight(l) {
		return nil, api.ErrArg
	}
	table := plainTable(l)
	if _, ok := table[name]; !ok {
		return nil, api.ErrAttr
	}
	delete(table, name)
	return plainList(table), api.OK
}

// plainGet: what Get is to answer.
func plainGet(l []api.Pair, name string) (string, api.Errno) {
	if !plainRight(l) {
		return "", api.ErrArg
	}
	value, ok := plainTable(l)[name]
	if !ok {
		return "", api.ErrAttr
	}
	return value, api.OK
}

// wantEncode, wantDecode, wantSet, wantDrop and wantGet: the call answers as the document says.

func wantEncode(t *testing.T, l []api.Pair) {
	t.Helper()
	want, wanted := plainEncode(l)
	if b, err := Encode(l); err != wanted || !bytes.Equal(b, want) {
		t.Errorf("Encode(%#v): %x, error %d, want %x, error %d", l, b, err, want, wanted)
	}
}

func wantDecode(t *testing.T, what string, b []byte) {
	t.Helper()
	want, wanted := plainDecode(b)
	if l, err := Decode(b); err != wanted || !slices.Equal(l, want) {
		t.Errorf("%s: Decode(%x): %#v, error %d, want %#v, error %d", what, b, l, err, want, wanted)
	}
}

func wantSet(t *testing.T, l []api.Pair, p api.Pair) {
	t.Helper()
	want, wanted := plainSet(l, p)
	if out, err := Set(l, p); err != wanted || !slices.Equal(out, want) {
		t.Errorf("Set(%#v, %#v): %#v, error %d, want %#v, error %d", l, p, out, err, want, wanted)
	}
}

func wantDrop(t *testing.T, l []api.Pair, name string) {
	t.Helper()
	want, wanted := plainDrop(l, name)
	if out, err := Drop(l, name); err != wanted || !slices.Equal(out, want) {
		t.Errorf("Drop(%#v, %q): %#v, error %d, want %#v, error %d", l, name, out, err, want, wanted)
	}
}

func wantGet(t *testing.T, l []api.Pair, name string) {
	t.Helper()
	want, wanted := plainGet(l, name)
	if value, err := Get(l, name); err != wanted || value != want {
		t.Errorf("Get(%#v, %q): %q, error %d, want %q, error %d", l, name, value, err, want, wanted)
	}
}

// wantAll: every call about l and p answers as the document says.
func wantAll(t *testing.T, l []api.Pair, p api.Pair) {
	t.Helper()
	wantEncode(t, l)
	wantDecode(t, "its bytes", plainBlock(l))
	wantSet(t, l, p)
	wantDrop(t, l, p.Name)
	wantGet(t, l, p.Name)
}

// wantListed: Set of p in l answers want alone.
func wantListed(t *testing.T, what string, l []api.Pair, p api.Pair, want []api.Pair) {
	t.Helper()
	if out, err := Set(l, p); err != api.OK || !slices.Equal(out, want) {
		t.Errorf("%s: Set(%#v, %#v): %#v, error %d, want %#v", what, l, p, out, err, want)
	}
}

// wantUnset: Set of p in l answers that error alone.
func wantUnset(t *testing.T, what string, l []api.Pair, p api.Pair, wanted api.Errno) {
	t.Helper()
	if out, err := Set(l, p); err != wanted || len(out) != 0 {
		t.Errorf("%s: Set(%#v, %#v): %#v, error %d, want no attributes, error %d", what, l, p, out, err, wanted)
	}
}

// wantLess: Drop of that name of l answers want alone.
func wantLess(t *testing.T, what string, l []api.Pair, name string, want []api.Pair) {
	t.Helper()
	if out, err := Drop(l, name); err != api.OK || !slices.Equal(out, want) {
		t.Errorf("%s: Drop(%#v, %q): %#v, error %d, want %#v", what, l, name, out, err, want)
	}
}

// wantValue: Get of that name of l answers value alone.
func wantValue(t *testing.T, what string, l []api.Pair, name, value string) {
	t.Helper()
	if got, err := Get(l, name); err != api.OK || got != value {
		t.Errorf("%s: Get(%#v, %q): %q, error %d, want %q", what, l, name, got, err, value)
	}
}

// wantNeither: Drop and Get of that name of l answer that error alone.
func wantNeither(t *testing.T, what string, l []api.Pair, name string, wanted api.Errno) {
	t.Helper()
	if out, err := Drop(l, name); err != wanted || len(out) != 0 {
		t.Errorf("%s: Drop(%#v, %q): %#v, error %d, want no attributes, error %d", what, l, name, out, err, wanted)
	}
	if value, err := Get(l, name); err != wanted || value != "" {
		t.Errorf("%s: Get(%#v, %q): %q, error %d, want no value, error %d", what, l, name, value, err, wanted)
	}
}

// wantTaken: l is right and fits, and is read again.
func wantTaken(t *testing.T, what string, l []api.Pair) {
	t.Helper()
	b := encoded(t, l)
	if !bytes.Equal(b, plainBlock(l)) {
		t.Errorf("%s: Encode(%#v): %x, want %x", what, l, b, plainBlock(l))
	}
	wantRead(t, what, b, l)
}

// wantNoRoom: Encode refuses l, since it doesn't fit.
func wantNoRoom(t *testing.T, what string, l []api.Pair) {
	t.Helper()
	if b, err := Encode(l); len(b) != 0 || err != api.ErrAttr {
		t.Errorf("%s: Encode(%#v): %x, error %d, want no bytes, error %d", what, l, b, err, api.ErrAttr)
	}
}

// wantRefused: l isn't right, whatever is asked of it.
func wantRefused(t *testing.T, what string, l []api.Pair) {
	t.Helper()
	if b, err := Encode(l); len(b) != 0 || err != api.ErrArg {
		t.Errorf("%s: Encode(%#v): %x, error %d, want no bytes, error %d", what, l, b, err, api.ErrArg)
	}
	for _, name := range []string{"a", "b", "no such name", "", long17} {
		wantUnset(t, what, l, api.Pair{Name: name, Value: "v"}, api.ErrArg)
		wantNeither(t, what, l, name, api.ErrArg)
	}
	for _, p := range l {
		wantUnset(t, what, l, p, api.ErrArg)
		wantNeither(t, what, l, p.Name, api.ErrArg)
	}
}

// wantRead: Decode of b answers l.
func wantRead(t *testing.T, what string, b []byte, l []api.Pair) {
	t.Helper()
	if got, err := Decode(b); err != api.OK || !slices.Equal(got, l) {
		t.Errorf("%s: Decode(%x): %#v, error %d, want %#v", what, b, got, err, l)
	}
}

// wantUnread: Decode of b answers ErrClean alone.
func wantUnread(t *testing.T, what string, b []byte) {
	t.Helper()
	if l, err := Decode(b); err != api.ErrClean || len(l) != 0 {
		t.Errorf("%s: Decode(%x): %#v, error %d, want no attributes, error %d", what, b, l, err, api.ErrClean)
	}
}

// encoded: the block of l, which is right and fits.
func encoded(t *testing.T, l []api.Pair) []byte {
	t.Helper()
	b, err := Encode(l)
	if err != api.OK || len(b) != 256 {
		t.Fatalf("Encode(%#v): %d bytes, error %d", l, len(b), err)
	}
	return b
}

// Names and Values of the greatest lengths, and one byte longer.
var (
	long16 = strings.Repeat("n", 16)
	long17 = strings.Repeat("n", 17)
	long64 = strings.Repeat("v", 64)
	long65 = strings.Repeat("v", 65)
)

// one: a list of one attribute.
func one(name, value string) []api.Pair { return []api.Pair{{Name: name, Value: value}} }

// named: a list of attributes of these Names, the Values being x1, x2 and so on.
func named(names ...string) []api.Pair {
	var l []api.Pair
	for k, name := range names {
		l = append(l, api.Pair{Name: name, Value: "x" + string(rune('1'+k))})
	}
	return l
}

// wide: a right list of so many attributes, each of a Name and a Value of so many bytes.
func wide(many, name, value int) []api.Pair {
	var l []api.Pair
	for k := range many {
		l = append(l, api.Pair{Name: string([]byte{byte(1 + k)}) + strings.Repeat("x", name-1), Value: strings.Repeat(string(rune('a'+k%26)), value)})
	}
	return l
}

// sized: a right list of that size, of Names of one byte, whose last Values make up what is left. (No size of 1 or 2 is one.)
func sized(size int) []api.Pair {
	var l []api.Pair
	for k := 0; size > 0; k++ {
		part := min(size, 67)
		if size > 67 && size < 70 { // what is left has to be an attribute too
			part = 60
		}
		l = append(l, api.Pair{Name: string(rune('0' + k)), Value: strings.Repeat(string(rune('a'+k)), part-3)})
		size -= part
	}
	return l
}

// without: l without its attribute k.
func without(l []api.Pair, k int) []api.Pair { return slices.Delete(slices.Clone(l), k, k+1) }

// with: l with p as its attribute k.
func with(l []api.Pair, k int, p api.Pair) []api.Pair {
	like := slices.Clone(l)
	like[k] = p
	return like
}

// few: right lists of all kinds that fit, for tests that are long for each.
func few() [][]api.Pair {
	return [][]api.Pair{
		nil,
		one("a", "xy"),
		one("a", ""),
		one("\x00", "\x00"),
		one(long16, long64),
		one(strings.Repeat("\xff", 16), strings.Repeat("\xff", 64)),
		{{Name: "a", Value: "2"}, {Name: "b", Value: "1"}},
		named("a", "ab", "abc", "b"),
		named("\x00", "\x00\x00", ".", "..", "/", "\x80", "\xff"),
		{{Name: "x"}, {Name: "y"}, {Name: "z"}},
		{{Name: "x", Value: "same"}, {Name: "y", Value: "same"}, {Name: "z", Value: ""}},
		append(wide(3, 16, 64), api.Pair{Name: "z", Value: "1"}),
		wide(83, 1, 0),
		sized(249),
		sized(250),
	}
}

// goodPairs: attributes that may be, at their edges.
func goodPairs() []api.Pair {
	var l []api.Pair
	for _, name := range []string{"a", "\x00", "/", ".", "..", " ", "\n", "\xff", "\x80", "\xc0\xaf", "ä", "a\x00", "\x00a", "a/b", "aa", "user.name", strings.Repeat("a", 15), long16, strings.Repeat("\x00", 16), strings.Repeat("\xff", 16), strings.Repeat("ä", 8)} {
		for _, value := range []string{"", "x", "\x00", "\xff", "a", "xy", "\x00\x00", "\xc3", strings.Repeat("v", 63), long64, strings.Repeat("\x00", 64), strings.Repeat("\xff", 64), strings.Repeat("ä", 32)} {
			l = append(l, api.Pair{Name: name, Value: value})
		}
	}
	return l
}

// badPairs: attributes that may not be, at their edges.
func badPairs() []api.Pair {
	l := []api.Pair{
		{}, {Value: "x"}, {Value: long64}, {Value: long65},
		{Name: long17}, {Name: long17, Value: "x"}, {Name: long17, Value: long64}, {Name: long17, Value: long65},
		{Name: strings.Repeat("\x00", 17)}, {Name: strings.Repeat("ä", 9)}, {Name: strings.Repeat("ä", 16), Value: "x"},
		{Name: "a", Value: strings.Repeat("\x00", 65)}, {Name: "a", Value: strings.Repeat("ä", 33)}, {Name: long16, Value: long65}, {Name: "\x00", Value: long65},
	}
	for _, n := range []int{18, 32, 33, 64, 255, 256, 257, 256 + 16, 65536, 65536 + 1} {
		l = append(l, api.Pair{Name: strings.Repeat("a", n), Value: "x"})
	}
	for _, n := range []int{65, 66, 128, 255, 256, 257, 256 + 64, 65536, 65536 + 1} {
		l = append(l, api.Pair{Name: "a", Value: strings.Repeat("x", n)})
	}
	return l
}

// badNames: names that no attribute has.
func badNames() []string {
	return []string{"", long17, strings.Repeat("\x00", 17), strings.Repeat("a", 256), strings.Repeat("a", 257), strings.Repeat("a", 65536+1)}
}

// anyText: up to so many bytes, of few letters (so that some are another's beginning) or of many.
func anyText(r *rand.Rand, most int) string {
	b := make([]byte, r.Intn(most+1)>>r.Intn(4))
	for k := range b {
		switch r.Intn(3) {
		case 0:
			b[k] = "ab\x00/\x7f\x80\xff"[r.Intn(7)]
		case 1:
			b[k] = 'a'
		default:
			b[k] = byte(r.Intn(256))
		}
	}
	return string(b)
}

// anyPair: an attribute that may be.
func anyPair(r *rand.Rand) api.Pair {
	for {
		if p := (api.Pair{Name: anyText(r, 16), Value: anyText(r, 64)}); p.Name != "" {
			return p
		}
	}
}

// anyRight: a right list of up to so many attributes, which may be too many to fit.
func anyRight(r *rand.Rand, most int) []api.Pair {
	table := map[string]string{}
	for range r.Intn(most + 1) {
		p := anyPair(r)
		table[p.Name] = p.Value
	}
	return plainList(table)
}

// anyFitting: a right list that fits.
func anyFitting(r *rand.Rand) []api.Pair {
	l := anyRight(r, 1+r.Intn(24))
	if r.Intn(4) == 0 { // many short ones
		for k := range l {
			l[k].Value = l[k].Value[:min(len(l[k].Value), r.Intn(3))]
		}
	}
	for sizeOf(l) > 250 {
		l = without(l, r.Intn(len(l)))
	}
	return l
}

// anyAtAll: a right list of which some attributes became anything.
func anyAtAll(r *rand.Rand) []api.Pair {
	l := anyRight(r, 1+r.Intn(12))
	for range r.Intn(3) {
		if len(l) == 0 {
			break
		}
		k, other := r.Intn(len(l)), r.Intn(len(l))
		switch r.Intn(6) {
		case 0:
			l[k] = badPairs()[r.Intn(len(badPairs()))]
		case 1:
			l[k].Value = strings.Repeat("w", 60+r.Intn(8))
		case 2:
			l[k], l[other] = l[other], l[k]
		case 3:
			l[k].Name = l[other].Name
		case 4:
			l[k].Name += "\x00"
		case 5:
			l[k].Name = l[k].Name[:r.Intn(len(l[k].Name)+1)]
		}
	}
	return l
}

// anyName: the name of an attribute of l, or one that is like it, or any.
func anyName(r *rand.Rand, l []api.Pair) string {
	if len(l) == 0 || r.Intn(4) == 0 {
		return anyText(r, 18)
	}
	name := l[r.Intn(len(l))].Name
	switch r.Intn(6) {
	case 0:
		return name + "\x00"
	case 1:
		return name[:len(name)/2]
	}
	return name
}
