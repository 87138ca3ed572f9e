package extent

import (
	"bytes"
	"slices"

	"undercroft/api"
	"undercroft/crc"
)

const (
	inRoot    = 4                    // extents that a root holds by itself
	mostNodes = most / api.MaxExtent // nodes of a list
	rootBytes = 60                   // bytes of a root
	sumBytes  = 4                    // bytes of a node's sum
)

// Where the parts of a node or a root stand: how many extents or nodes, which of both, and then these themselves.
const (
	manyAt   = 0
	whichAt  = 2
	behindAt = 4
	sumAt    = api.Block - sumBytes
)

// Where the parts of an extent stand in its bytes.
const (
	atAt        = 0
	startAt     = 4
	lenAt       = 8
	unwrittenAt = 10
	extentBytes = 12
)

// blockBytes is how many bytes the number of a node's block has in a root.
const blockBytes = 4

// Need: how many nodes a list needs.
func Need(l []api.Extent) int {
	if !right(l) {
		return -1
	}
	if len(l) <= inRoot {
		return 0
	}
	return (len(l) + api.MaxExtent - 1) / api.MaxExtent
}

// Store: the list's root, and the nodes that are to lie in these blocks.
func Store(l []api.Extent, blocks []int) ([]byte, [][]byte, api.Errno) {
	if Need(l) != len(blocks) || !apart(blocks) {
		return nil, nil, api.ErrArg
	}
	if len(blocks) == 0 {
		return holding(l, rootBytes), nil, api.OK
	}
	return naming(blocks), nodesOf(l), api.OK
}

// Root: the list that a root holds, or the blocks in which its nodes lie.
func Root(body []byte) ([]api.Extent, []int, api.Errno) {
	if len(body) != rootBytes {
		return nil, nil, api.ErrClean
	}
	// All bytes, those behind too, are right just where Store would tell the same ones.
	if l := held(body, inRoot); right(l) && bytes.Equal(body, holding(l, rootBytes)) {
		return l, nil, api.OK
	}
	if blocks := blocksOf(body); len(blocks) > 0 && apart(blocks) && bytes.Equal(body, naming(blocks)) {
		return nil, blocks, api.OK
	}
	return nil, nil, api.ErrClean
}

// Join: the list that these nodes hold.
func Join(nodes [][]byte) ([]api.Extent, api.Errno) {
	if len(nodes) > mostNodes {
		return nil, api.ErrClean
	}
	var l []api.Extent
	for _, b := range nodes {
		if len(b) != api.Block {
			return nil, api.ErrClean
		}
		l = append(l, held(b, api.MaxExtent)...)
	}
	// How many each has, the sums and the bytes ahead of them are right just where Store would tell the same nodes.
	if Need(l) < 1 || !slices.EqualFunc(nodes, nodesOf(l), bytes.Equal) {
		return nil, api.ErrClean
	}
	return l, api.OK
}

// apart: whether nodes may lie in these blocks, each in one of its own.
func apart(blocks []int) bool {
	for k, block := range blocks {
		if block < 1 || block >= api.MaxBlocks || slices.Contains(blocks[:k], block) {
			return false
		}
	}
	return true
}

// nodesOf: the nodes that hold a list of more extents than a root does.
func nodesOf(l []api.Extent) [][]byte {
	var nodes [][]byte
	for part := range slices.Chunk(l, api.MaxExtent) {
		b := holding(part, api.Block)
		copy(b[sumAt:], crc.Bytes(uint64(crc.Sum(b[:sumAt])), sumBytes))
		nodes = append(nodes, b)
	}
	return nodes
}

// holding: so many bytes, which begin with these extents, their number being ahead of them.
func holding(l []api.Extent, size int) []byte {
	b := make([]byte, size)
	copy(b[manyAt:whichAt], crc.Bytes(uint64(len(l)), whichAt-manyAt))
	for k, e := range l {
		copy(b[behindAt+k*extentBytes:], coded(e))
	}
	return b
}

// held: the extents that bytes begin with; none, if they are more than they may be. Whether they are to be believed isn't asked here.
func held(b []byte, atMost int) []api.Extent {
	many := numberAt(b[manyAt:whichAt])
	if many > atMost {
		return nil
	}
	var l []api.Extent
	for k := range many {
		l = append(l, told(b[behindAt+k*extentBytes:][:extentBytes]))
	}
	return l
}

// naming: the root of a list whose nodes lie in these blocks.
func naming(blocks []int) []byte {
	b := make([]byte, rootBytes)
	copy(b[manyAt:whichAt], crc.Bytes(uint64(len(blocks)), whichAt-manyAt))
	copy(b[whichAt:behindAt], crc.Bytes(1, behindAt-whichAt))
	for k, block := range blocks {
		copy(b[behindAt+k*blockBytes:], crc.Bytes(uint64(block), blockBytes))
	}
	return b
}

// blocksOf: the blocks of nodes that a root tells; none, if they are more than they may be. Whether they are to be believed isn't asked here.
func blocksOf(body []byte) []int {
	many := numberAt(body[manyAt:whichAt])
	if many > mostNodes {
		return nil
	}
	var blocks []int
	for k := range many {
		blocks = append(blocks, numberAt(body[behindAt+k*blockBytes:][:blockBytes]))
	}
	return blocks
}

// coded: an extent's bytes.
func coded(e api.Extent) []byte {
	b := make([]byte, extentBytes)
	copy(b[atAt:], crc.Bytes(uint64(e.At), startAt-atAt))
	copy(b[startAt:], crc.Bytes(uint64(e.Start), lenAt-startAt))
	copy(b[lenAt:], crc.Bytes(uint64(e.Len), unwrittenAt-lenAt))
	if e.Unwritten {
		b[unwrittenAt] = 1
	}
	return b
}

// told: the extent that these bytes tell.
func told(b []byte) api.Extent {
	return api.Extent{
		At:        numberAt(b[atAt:startAt]),
		Start:     numberAt(b[startAt:lenAt]),
		Len:       numberAt(b[lenAt:unwrittenAt]),
		Unwritten: numberAt(b[unwrittenAt:extentBytes]) != 0,
	}
}

// numberAt: the number that these bytes stand for.
func numberAt(b []byte) int {
	v, _ := crc.Number(b)
	return int(v)
}
