package geom

import (
	"encoding/binary"
	"hash/crc32"
	"testing"

	"undercroft/api"
)

// The document's words once more, as plainly as can be, to hold the package against.

// A plainPart is blocks of a device that belong together.
type plainPart struct{ kind, from, to int }

// plainParts: the parts of a device of so many blocks, in order.
func plainParts(blocks int) []plainPart {
	inodes := (blocks - blocks%4) / 4
	tableLen := inodes / 2
	if inodes%2 == 1 {
		tableLen++
	}
	logLen := 32
	for n := 32; n <= blocks; n += 32 {
		logLen++
	}
	var parts []plainPart
	at := 0
	for kind, length := range []int{1, 1, 1, tableLen, logLen} {
		parts = append(parts, plainPart{kind + 1, at, at + length})
		at += length
	}
	return append(parts, plainPart{6, at, blocks})
}

// plainLayout: the geometry of so many blocks, from 128 to 1024.
func plainLayout(blocks int) api.Geom {
	p := plainParts(blocks)
	return api.Geom{
		Blocks: blocks, Inodes: (blocks - blocks%4) / 4,
		BlockMap: p[1].from, InodeMap: p[2].from, Table: p[3].from,
		Log: p[4].from, LogLen: p[4].to - p[4].from, Data: p[5].from,
	}
}

// plainMay: whether g is a geometry.
func plainMay(g api.Geom) bool {
	return g.Blocks >= 128 && g.Blocks <= 1024 && g == plainLayout(g.Blocks)
}

// layouts: all geometries there are.
func layouts() []api.Geom {
	var l []api.Geom
	for blocks := 128; blocks <= 1024; blocks++ {
		l = append(l, plainLayout(blocks))
	}
	return l
}

// fields: the numbers of a geometry, in the superblock's order.
func fields(g *api.Geom) []*int {
	return []*int{&g.Blocks, &g.Inodes, &g.BlockMap, &g.InodeMap, &g.Table, &g.Log, &g.LogLen, &g.Data}
}

// sealed: the block that begins with these 40 bytes, which has the right sum and noughts behind it.
func sealed(ahead []byte) []byte {
	b := make([]byte, 256)
	copy(b, ahead[:40])
	binary.LittleEndian.PutUint32(b[40:], crc32.Checksum(b[:40], crc32.MakeTable(crc32.Castagnoli)))
	return b
}

// plainSuper: the block that says these numbers, whatever they are.
func plainSuper(g api.Geom) []byte {
	b := []byte{'U', 'C', 'F', 'T', 1, 0, 0, 0}
	for _, v := range fields(&g) {
		b = binary.LittleEndian.AppendUint32(b, uint32(*v))
	}
	return sealed(b)
}

// supers: each superblock that there is, and what it says.
func supers() map[string]api.Geom {
	m := map[string]api.Geom{}
	for _, g := range layouts() {
		m[string(plainSuper(g))] = g
	}
	return m
}

// plainWhere: what a block is.
func plainWhere(g api.Geom, block int) int {
	if !plainMay(g) {
		return 0
	}
	for _, p := range plainParts(g.Blocks) {
		if block >= p.from && block < p.to {
			return p.kind
		}
	}
	return 0
}

// wantDecoded: Decode answers g.
func wantDecoded(t *testing.T, what string, b []byte, g api.Geom) {
	t.Helper()
	if got, err := Decode(b); got != g || err != api.OK {
		t.Errorf("%s: Decode: %+v, error %d, want %+v", what, got, err, g)
	}
}

// wantNone: Decode answers that b is no superblock.
func wantNone(t *testing.T, what string, b []byte) {
	t.Helper()
	if got, err := Decode(b); got != (api.Geom{}) || err != api.ErrClean {
		t.Errorf("%s: Decode: %+v, error %d, want the zero Geom, error %d", what, got, err, api.ErrClean)
	}
}

// wantNoGeometry: each call refuses g.
func wantNoGeometry(t *testing.T, what string, g api.Geom) {
	t.Helper()
	if b, err := Encode(g); len(b) != 0 || err != api.ErrArg {
		t.Errorf("%s: Encode(%+v): %d bytes, error %d, want none, error %d", what, g, len(b), err, api.ErrArg)
	}
	for _, i := range []int{0, 1, 3, 19, 55, g.Data, g.Blocks - 1} {
		if part := Where(g, i); part != 0 {
			t.Errorf("%s: Where(%+v, %d): %d, want 0", what, g, i, part)
		}
		if block, place, err := Inode(g, i); block != 0 || place != 0 || err != api.ErrArg {
			t.Errorf("%s: Inode(%+v, %d): %d, %d, error %d, want 0, 0, error %d", what, g, i, block, place, err, api.ErrArg)
		}
	}
}

// encoded: the superblock of g, which is a geometry.
func encoded(t *testing.T, g api.Geom) []byte {
	t.Helper()
	b, err := Encode(g)
	if err != api.OK {
		t.Fatalf("Encode(%+v): error %d", g, err)
	}
	return b
}
