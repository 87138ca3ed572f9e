// Package area has what log and replay share: areas of a disk, their heads and rings, and the way home of records. See shared/doc/04-log.md, section Words.
package area

import (
	"bytes"

	"undercroft/api"
	"undercroft/crc"
	"undercroft/disk"
)

const (
	least = 8                      // blocks that an area has at least
	mark  = "ULOG\x03\x00\x00\x00" // what a head begins with
)

// Where the parts of a head stand in it.
const (
	seqAt   = 8
	placeAt = 16
	sumAt   = 20
)

// Area is blocks of a disk, on which a log stands: a head, and a ring behind it. The zero Area is on no disk, and has no place.
type Area struct {
	disk  *disk.Disk
	start int // the head's block
	ring  int // how many places the ring has
}

// Of: the area of that many blocks from start on; false: it may not be.
func Of(d *disk.Disk, start, length int) (Area, bool) {
	// A nil disk has no blocks, so that no area lies on it.
	if length < least || length > api.MaxBlocks || start < 0 || start > d.Size()-length {
		return Area{}, false
	}
	return Area{disk: d, start: start, ring: length - 1}, true
}

// Places: how many places the ring has.
func (a Area) Places() int { return a.ring }

// Behind: the place that many blocks behind a place, round the ring.
func (a Area) Behind(place, blocks int) int { return (place + blocks) % a.ring }

// Put: writes a block into the ring, at that place.
func (a Area) Put(place int, b []byte) { a.disk.Write(a.placed(place), b) }

// placed: the disk's block of a place.
func (a Area) placed(place int) int { return a.start + 1 + place }

// Ring: the blocks of the whole ring, one behind the other, from that place on round to it again.
func (a Area) Ring(place int) []byte {
	b := make([]byte, 0, a.ring*api.Block)
	for k := range a.ring {
		block, _ := a.disk.Read(a.placed(a.Behind(place, k)))
		b = append(b, block...)
	}
	return b
}

// PutHead: writes a head with that Seq and that place.
func (a Area) PutHead(seq uint64, place int) { a.disk.Write(a.start, head(seq, place)) }

// Head: the Seq and the place of the head; false: it may not be.
func (a Area) Head() (uint64, int, bool) {
	b, err := a.disk.Read(a.start)
	if err != api.OK {
		return 0, 0, false
	}
	seq, _ := crc.Number(b[seqAt:placeAt])
	place, _ := crc.Number(b[placeAt:sumAt])
	// Mark, kind, sum and unused bytes are all right just where the head of these two is the same block.
	if place >= uint64(a.ring) || !bytes.Equal(b, head(seq, int(place))) {
		return 0, 0, false
	}
	return seq, int(place), true
}

// head: the block that is a head with that Seq and that place.
func head(seq uint64, place int) []byte {
	b := make([]byte, api.Block)
	copy(b, mark)
	copy(b[seqAt:], crc.Bytes(seq, 8))
	copy(b[placeAt:], crc.Bytes(uint64(place), 4))
	copy(b[sumAt:], crc.Bytes(uint64(crc.Sum(b[:sumAt])), 4))
	return b
}

// Takes: whether all blocks of a record are the disk's, and outside of the area.
func (a Area) Takes(t api.Txn) bool {
	for _, w := range t.Writes {
		if !a.outside(w.Block) {
			return false
		}
	}
	for _, block := range t.Revokes {
		if !a.outside(block) {
			return false
		}
	}
	return true
}

// outside: whether there is such a block of the disk, and it isn't in the area.
func (a Area) outside(block int) bool {
	within := block >= a.start && block <= a.start+a.ring
	return block >= 0 && block < a.disk.Size() && !within
}

// Home: writes each Write of these records to its block, but those that a later one of them revokes.
func (a Area) Home(records []api.Txn) {
	last := revoked(records)
	for _, t := range records {
		for _, w := range t.Writes {
			if last[w.Block] <= t.Seq {
				a.disk.Write(w.Block, w.Data)
			}
		}
	}
}

// revoked: by block the greatest Seq of the records that revoke it. (A block that none revokes is told as 0, which is greater than no Seq.)
func revoked(records []api.Txn) map[int]uint64 {
	greatest := map[int]uint64{}
	for _, t := range records {
		for _, block := range t.Revokes {
			greatest[block] = max(greatest[block], t.Seq)
		}
	}
	return greatest
}
