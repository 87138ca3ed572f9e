package extent

import (
	"bytes"
	"encoding/binary"
	"hash/crc32"
	"math"
	"math/rand"
	"slices"
	"testing"

	"undercroft/api"
)

// The document's words once more, as plainly as can be, to hold the package against: a list is, for each block of the file, where it lies on the device.

// place is where a block of the file lies; block 0: nowhere.
type place struct {
	block     int
	unwritten bool
}

type places [256]place

// plainMay: whether an extent may be as e is.
func plainMay(e api.Extent) bool {
	if e.At < 0 || e.At > 255 || e.Start < 1 || e.Start > 1023 || e.Len < 1 || e.Len > 256 {
		return false
	}
	return e.At+e.Len <= 256 && e.Start+e.Len <= 1024
}

// plainRight: whether the list is right.
func plainRight(l []api.Extent) bool {
	if len(l) > 60 {
		return false
	}
	met := map[int]int{} // how often a block of the device is met
	for k, e := range l {
		if !plainMay(e) {
			return false
		}
		for i := range e.Len {
			met[e.Start+i]++
			if met[e.Start+i] > 1 {
				return false
			}
		}
		if k == 0 {
			continue
		}
		ahead := l[k-1]
		end := ahead.At + ahead.Len
		if e.At < end {
			return false
		}
		if e.At == end && e.Start == ahead.Start+ahead.Len && e.Unwritten == ahead.Unwritten {
			return false
		}
	}
	return true
}

// plainPlaces: where the blocks of a right list lie.
func plainPlaces(l []api.Extent) places {
	var p places
	for _, e := range l {
		for i := range e.Len {
			p[e.At+i] = place{e.Start + i, e.Unwritten}
		}
	}
	return p
}

// plainList: the one right list of these places, or more than 60 extents.
func plainList(p places) []api.Extent {
	var l []api.Extent
	var ahead place
	for at, here := range p {
		switch {
		case here.block == 0:
		case ahead.block != 0 && here == place{ahead.block + 1, ahead.unwritten}:
			l[len(l)-1].Len++
		default:
			l = append(l, api.Extent{At: at, Start: here.block, Len: 1, Unwritten: here.unwritten})
		}
		ahead = here
	}
	return l
}

// plainAnswer: the list of these places, if it isn't too long.
func plainAnswer(p places) ([]api.Extent, api.Errno) {
	l := plainList(p)
	if len(l) > 60 {
		return nil, api.ErrSpace
	}
	return l, api.OK
}

func plainCheck(l []api.Extent) api.Errno {
	if plainRight(l) {
		return api.OK
	}
	return api.ErrArg
}

func plainFind(l []api.Extent, at int) (int, bool, bool) {
	if !plainRight(l) || at < 0 || at > 255 {
		return 0, false, false
	}
	here := plainPlaces(l)[at]
	if here.block == 0 {
		return 0, false, false
	}
	return here.block, !here.unwritten, true
}

func plainPut(l []api.Extent, e api.Extent) ([]api.Extent, api.Errno) {
	if !plainRight(l) || !plainMay(e) {
		return nil, api.ErrArg
	}
	p := plainPlaces(l)
	for at, here := range p {
		if here.block == 0 {
			continue
		}
		if at >= e.At && at < e.At+e.Len || here.block >= e.Start && here.block < e.Start+e.Len {
			return nil, api.ErrExist
		}
	}
	for i := range e.Len {
		p[e.At+i] = place{e.Start + i, e.Unwritten}
	}
	return plainAnswer(p)
}

func plainCut(l []api.Extent, from, to int) ([]api.Extent, []api.Span, api.Errno) {
	if !plainRight(l) || from < 0 || to < from {
		return nil, nil, api.ErrArg
	}
	p := plainPlaces(l)
	var gone []api.Span
	for _, e := range l {
		var s api.Span
		for i := range e.Len {
			if at := e.At + i; at >= from && at < to {
				p[at] = place{}
				if s.Len == 0 {
					s.Start = e.Start + i
				}
				s.Len++
			}
		}
		if s.Len > 0 {
			gone = append(gone, s)
		}
	}
	left, err := plainAnswer(p)
	if err != api.OK {
		gone = nil
	}
	return left, gone, err
}

func plainMark(l []api.Extent, from, to int) ([]api.Extent, api.Errno) {
	if !plainRight(l) || from < 0 || to < from {
		return nil, api.ErrArg
	}
	p := plainPlaces(l)
	for at := range p {
		if at >= from && at < to {
			p[at].unwritten = false
		}
	}
	return plainAnswer(p)
}

func plainNeed(l []api.Extent) int {
	if !plainRight(l) {
		return -1
	}
	return needed(len(l))
}

// needed: how many nodes a right list of n extents needs.
func needed(n int) int {
	switch {
	case n <= 4:
		return 0
	case n <= 20:
		return 1
	case n <= 40:
		return 2
	}
	return 3
}

// plainBlocks: whether nodes may lie in these blocks.
func plainBlocks(blocks []int) bool {
	met := map[int]int{}
	for _, block := range blocks {
		met[block]++
		if block < 1 || block > 1023 || met[block] > 1 {
			return false
		}
	}
	return true
}

func plainStore(l []api.Extent, blocks []int) ([]byte, [][]byte, api.Errno) {
	if !plainRight(l) || len(blocks) != plainNeed(l) || !plainBlocks(blocks) {
		return nil, nil, api.ErrArg
	}
	if len(blocks) == 0 {
		return plainHolding(l, 60), nil, api.OK
	}
	return plainNaming(blocks), plainNodes(l), api.OK
}

// plainNodes: the nodes that hold l, whether it is right or not.
func plainNodes(l []api.Extent) [][]byte {
	var nodes [][]byte
	for len(l) > 20 {
		nodes = append(nodes, plainNode(l[:20]))
		l = l[20:]
	}
	return append(nodes, plainNode(l))
}

// plainNode: the node that holds l, whether that may be or not (of numbers that are too great their lowest bytes).
func plainNode(l []api.Extent) []byte { return sealed(plainHolding(l, 256)) }

// plainHolding: so many bytes that begin with l and its length.
func plainHolding(l []api.Extent, size int) []byte {
	b := make([]byte, size)
	binary.LittleEndian.PutUint16(b, uint16(len(l)))
	for k, e := range l {
		var unwritten uint16
		if e.Unwritten {
			unwritten = 1
		}
		binary.LittleEndian.PutUint32(b[4+12*k:], uint32(e.At))
		binary.LittleEndian.PutUint32(b[8+12*k:], uint32(e.Start))
		binary.LittleEndian.PutUint16(b[12+12*k:], uint16(e.Len))
		binary.LittleEndian.PutUint16(b[14+12*k:], unwritten)
	}
	return b
}

// plainNaming: the root that names these blocks, whether that may be or not (of as many as there is room for).
func plainNaming(blocks []int) []byte {
	b := make([]byte, 60)
	binary.LittleEndian.PutUint16(b, uint16(len(blocks)))
	b[2] = 1
	for k, block := range blocks {
		binary.LittleEndian.PutUint32(b[4+4*k:], uint32(block))
	}
	return b
}

// sealed: bytes like b, of which the last four are the sum of the others.
func sealed(b []byte) []byte {
	like := bytes.Clone(b)
	last := len(like) - 4
	binary.LittleEndian.PutUint32(like[last:], crc32.Checksum(like[:last], crc32.MakeTable(crc32.Castagnoli)))
	return like
}

// plainExtents: the extents that b tells, and whether they and nothing else but noughts stand in it.
func plainExtents(b []byte, most int) ([]api.Extent, bool) {
	many := int(b[0]) + 256*int(b[1])
	if many > most || b[2] != 0 || b[3] != 0 {
		return nil, false
	}
	var l []api.Extent
	b = b[4:]
	for range many {
		unwritten := binary.LittleEndian.Uint16(b[10:])
		if unwritten > 1 {
			return nil, false
		}
		l = append(l, api.Extent{
			At:        int(binary.LittleEndian.Uint32(b)),
			Start:     int(binary.LittleEndian.Uint32(b[4:])),
			Len:       int(binary.LittleEndian.Uint16(b[8:])),
			Unwritten: unwritten == 1,
		})
		b = b[12:]
	}
	return l, noughts(b)
}

func noughts(b []byte) bool { return len(bytes.Trim(b, "\x00")) == 0 }

func plainRoot(body []byte) ([]api.Extent, []int, api.Errno) {
	if len(body) != 60 {
		return nil, nil, api.ErrClean
	}
	if l, ok := plainExtents(body, 4); ok && plainRight(l) {
		return l, nil, api.OK
	}
	many := int(body[0]) + 256*int(body[1])
	if many < 1 || many > 3 || body[2] != 1 || body[3] != 0 || !noughts(body[4+4*many:]) {
		return nil, nil, api.ErrClean
	}
	var blocks []int
	for k := range many {
		blocks = append(blocks, int(binary.LittleEndian.Uint32(body[4+4*k:])))
	}
	if !plainBlocks(blocks) {
		return nil, nil, api.ErrClean
	}
	return nil, blocks, api.OK
}

func plainJoin(nodes [][]byte) ([]api.Extent, api.Errno) {
	if len(nodes) < 1 || len(nodes) > 3 {
		return nil, api.ErrClean
	}
	var l []api.Extent
	for k, b := range nodes {
		if len(b) != 256 || !bytes.Equal(b, sealed(b)) {
			return nil, api.ErrClean
		}
		part, ok := plainExtents(b[:252], 20)
		if !ok || len(part) == 0 || k < len(nodes)-1 && len(part) != 20 {
			return nil, api.ErrClean
		}
		l = append(l, part...)
	}
	if len(l) <= 4 || !plainRight(l) {
		return nil, api.ErrClean
	}
	return l, api.OK
}

// wantAll: what is asked of a list alone is answered as the document says.
func wantAll(t *testing.T, l []api.Extent) {
	t.Helper()
	if err := Check(l); err != plainCheck(l) {
		t.Errorf("Check(%v): %d, want %d", l, err, plainCheck(l))
	}
	if n := Need(l); n != plainNeed(l) {
		t.Errorf("Need(%v): %d, want %d", l, n, plainNeed(l))
	}
}

func wantFind(t *testing.T, l []api.Extent, at int) {
	t.Helper()
	block, written, is := Find(l, at)
	plain, plainWritten, plainIs := plainFind(l, at)
	if block != plain || written != plainWritten || is != plainIs {
		t.Errorf("Find(%v, %d): %d, %v, %v, want %d, %v, %v", l, at, block, written, is, plain, plainWritten, plainIs)
	}
}

func wantPut(t *testing.T, l []api.Extent, e api.Extent) {
	t.Helper()
	got, err := Put(l, e)
	if want, code := plainPut(l, e); err != code || !slices.Equal(got, want) {
		t.Errorf("Put(%v, %v): %v, %d, want %v, %d", l, e, got, err, want, code)
	}
}

func wantCut(t *testing.T, l []api.Extent, from, to int) {
	t.Helper()
	got, gone, err := Cut(l, from, to)
	if want, spans, code := plainCut(l, from, to); err != code || !slices.Equal(got, want) || !slices.Equal(gone, spans) {
		t.Errorf("Cut(%v, %d, %d): %v, %v, %d, want %v, %v, %d", l, from, to, got, gone, err, want, spans, code)
	}
}

func wantMark(t *testing.T, l []api.Extent, from, to int) {
	t.Helper()
	got, err := Mark(l, from, to)
	if want, code := plainMark(l, from, to); err != code || !slices.Equal(got, want) {
		t.Errorf("Mark(%v, %d, %d): %v, %d, want %v, %d", l, from, to, got, err, want, code)
	}
}

func wantStore(t *testing.T, l []api.Extent, blocks []int) {
	t.Helper()
	root, nodes, err := Store(l, blocks)
	if want, plain, code := plainStore(l, blocks); err != code || !bytes.Equal(root, want) || !sameNodes(nodes, plain) {
		t.Errorf("Store(%v, %v): %x, %x, %d, want %x, %x, %d", l, blocks, root, nodes, err, want, plain, code)
	}
}

func wantRoot(t *testing.T, body []byte) {
	t.Helper()
	l, blocks, err := Root(body)
	if want, plain, code := plainRoot(body); err != code || !slices.Equal(l, want) || !slices.Equal(blocks, plain) {
		t.Errorf("Root(%x): %v, %v, %d, want %v, %v, %d", body, l, blocks, err, want, plain, code)
	}
}

func wantJoin(t *testing.T, nodes [][]byte) {
	t.Helper()
	l, err := Join(nodes)
	if want, code := plainJoin(nodes); err != code || !slices.Equal(l, want) {
		t.Errorf("Join(%x): %v, %d, want %v, %d", nodes, l, err, want, code)
	}
}

func sameNodes(a, b [][]byte) bool { return slices.EqualFunc(a, b, bytes.Equal) }

// far: numbers that are far from all that may be, the greatest and the least among them.
func far() []int {
	return []int{
		math.MinInt, math.MinInt + 1, math.MinInt + 256, math.MinInt + 1024, -1 << 62, -1<<32 - 1, -1 << 32, -1<<32 + 1, -1<<32 + 5, -1 << 31, -1 << 16, -1024, -256,
		1 << 16, 1<<16 + 5, 1<<31 - 1, 1 << 31, 1<<32 - 1, 1 << 32, 1<<32 + 1, 1<<32 + 5, 1 << 62, math.MaxInt - 1024, math.MaxInt - 256, math.MaxInt - 1, math.MaxInt,
	}
}

// near: numbers round the document's edges.
func near() []int {
	return []int{-2, -1, 0, 1, 2, 3, 19, 20, 21, 59, 60, 61, 127, 128, 254, 255, 256, 257, 258, 511, 512, 1022, 1023, 1024, 1025}
}

// spaced: n extents of 3 blocks each, none of which goes on where another one ends; right up to 60, and otherwise so.
func spaced(n int) []api.Extent {
	var l []api.Extent
	for k := range n {
		l = append(l, api.Extent{At: 4 * k, Start: 1020 - 16*k, Len: 3, Unwritten: k%3 == 1})
	}
	return l
}

// blocksFor: blocks for n nodes, that may be.
func blocksFor(n int) []int { return []int{1023, 1, 512, 7}[:n] }

// anyList: a right list of up to most extents.
func anyList(r *rand.Rand, most int) []api.Extent {
	l := grown(r, r.Intn(most+1), 1+r.Intn(6), r.Intn(3))
	return l[:min(most, len(l))]
}

// grown: the list of so many stretches of up to size blocks, with gaps of up to gap between. Many of them lie side by side in the file, on the device, or in both.
func grown(r *rand.Rand, many, size, gap int) []api.Extent {
	var p places
	taken := map[int]int{0: 1}
	next, unwritten := 1+r.Intn(1000), false
	for at := r.Intn(3); many > 0 && at < 256; many-- {
		if r.Intn(3) > 0 {
			next = 1 + r.Intn(1023)
		}
		if r.Intn(2) == 0 {
			unwritten = !unwritten
		}
		for range 1 + r.Intn(size) {
			if at > 255 || next > 1023 || taken[next] > 0 {
				break
			}
			p[at] = place{next, unwritten}
			taken[next]++
			at, next = at+1, next+1
		}
		at += r.Intn(gap + 1)
	}
	return plainList(p)
}

// anyExtent: one that may be mostly, small or great.
func anyExtent(r *rand.Rand) api.Extent {
	e := api.Extent{At: r.Intn(256), Start: 1 + r.Intn(1023), Len: 1 + r.Intn(1<<r.Intn(8)), Unwritten: r.Intn(2) == 0}
	switch r.Intn(30) {
	case 0:
		e.At = anyNumber(r)
	case 1:
		e.Start = anyNumber(r)
	case 2:
		e.Len = anyNumber(r)
	}
	return e
}

// beside: an extent that goes on with one of l, or ends where it begins, or has blocks in common with it.
func beside(r *rand.Rand, l []api.Extent) api.Extent {
	if len(l) == 0 {
		return anyExtent(r)
	}
	x := l[r.Intn(len(l))]
	e := api.Extent{At: x.At + x.Len, Start: x.Start + x.Len, Len: 1 + r.Intn(3), Unwritten: x.Unwritten}
	if r.Intn(2) == 0 {
		e.At, e.Start = x.At-e.Len, x.Start-e.Len
	}
	switch r.Intn(6) {
	case 0:
		e.Unwritten = !e.Unwritten
	case 1:
		e.At += r.Intn(3) - 1
	case 2:
		e.Start += r.Intn(3) - 1
	}
	return e
}

// broken: a list like l in which something small is another: mostly not right.
func broken(r *rand.Rand, l []api.Extent) []api.Extent {
	like := slices.Clone(l)
	if len(like) == 0 {
		return []api.Extent{anyExtent(r)}
	}
	k, other := r.Intn(len(like)), r.Intn(len(like))
	switch r.Intn(8) {
	case 0:
		like[k].At += r.Intn(5) - 2
	case 1:
		like[k].Start += r.Intn(5) - 2
	case 2:
		like[k].Len += r.Intn(5) - 2
	case 3:
		like[k].Unwritten = !like[k].Unwritten
	case 4:
		like[k], like[other] = like[other], like[k]
	case 5:
		like[k].Start = like[other].Start
	case 6:
		like = slices.Insert(like, k, beside(r, l))
	case 7:
		switch v := anyNumber(r); r.Intn(3) {
		case 0:
			like[k].At = v
		case 1:
			like[k].Start = v
		case 2:
			like[k].Len = v
		}
	}
	return like
}

// anyNumber: one round the edges, one far from all, or any.
func anyNumber(r *rand.Rand) int {
	switch r.Intn(4) {
	case 0:
		return near()[r.Intn(len(near()))]
	case 1:
		return far()[r.Intn(len(far()))]
	case 2:
		return int(r.Uint64())
	}
	return r.Intn(1100) - 20
}

// anyBounds: bounds of a part of a file, mostly such as may be.
func anyBounds(r *rand.Rand) (int, int) {
	if r.Intn(20) == 0 {
		return anyNumber(r), anyNumber(r)
	}
	from := r.Intn(258)
	return from, from + r.Intn(1<<r.Intn(9))
}
