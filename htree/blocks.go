package htree

import (
	"bytes"
	"cmp"
	"slices"

	"undercroft/api"
	"undercroft/crc"
	"undercroft/leaf"
)

const (
	leastRows = 2 // of an index
	mostRows  = 30
)

// Where the parts of an index stand in it.
const (
	markAt   = 2 // behind the number of rows
	rowsAt   = 4
	sumBytes = 4 // of a row
	rowBytes = 8
	sumAt    = api.Block - 4
)

// mark stands in an index where a leaf has its size, which is never so great.
const mark = 1<<16 - 1

// A row tells of a leaf. One leaf alone has a row too, though no index: of the lowest sum of all, and block 0.
type row struct {
	low     uint32 // the names' sums are this or above, and below the next row's
	block   int
	entries []entry // in order, once the leaf is read
}

// An entry is one of a directory's, with the sum of its name.
type entry struct {
	sum   uint32
	name  string
	inode int
}

// entryOf: e as an entry.
func entryOf(e api.Name) entry {
	return entry{sum: crc.Sum([]byte(e.Name)), name: e.Name, inode: e.Inode}
}

// told: the entry as it is told.
func (e entry) told() api.Name { return api.Name{Name: e.name, Inode: e.inode} }

// order: below 0, if a stands ahead of b; above 0, if it stands behind; 0, if they have one name.
func order(a, b entry) int { return cmp.Or(cmp.Compare(a.sum, b.sum), cmp.Compare(a.name, b.name)) }

// opened: the rows of a directory, with their leaves' entries; ErrClean: it isn't right.
func opened(d [][]byte) ([]row, api.Errno) {
	rows, ok := rowsOf(d)
	if !ok {
		return nil, api.ErrClean
	}
	for k := range rows {
		l, err := leaf.Decode(d[rows[k].block])
		if err != api.OK {
			return nil, err
		}
		for _, e := range l {
			rows[k].entries = append(rows[k].entries, entryOf(e))
		}
		slices.SortFunc(rows[k].entries, order)
		if !within(rows, k) {
			return nil, api.ErrClean
		}
	}
	return rows, api.OK
}

// within: whether the sums of the entries of row k, which are in order, are its own.
func within(rows []row, k int) bool {
	l := rows[k].entries
	if len(l) == 0 {
		return true
	}
	lowest, highest := l[0].sum, l[len(l)-1].sum
	return rows[k].low <= lowest && (k+1 == len(rows) || highest < rows[k+1].low)
}

// rowsOf: the rows by which the leaves of a directory are found; false: it isn't right.
func rowsOf(d [][]byte) ([]row, bool) {
	if len(d) == 1 {
		return []row{{}}, true
	}
	if len(d) == 0 {
		return nil, false
	}
	rows, ok := toldRows(d[0])
	if !ok || len(rows) != len(d)-1 || !rise(rows) {
		return nil, false
	}
	return rows, true
}

// rise: whether the rows' sums rise from 0 on, and their blocks are 1 to the number of rows, each once.
func rise(rows []row) bool {
	met := map[int]struct{}{} // blocks
	for k, r := range rows {
		if k == 0 && r.low != 0 || k > 0 && r.low <= rows[k-1].low {
			return false
		}
		if r.block < 1 || r.block > len(rows) {
			return false
		}
		met[r.block] = struct{}{}
	}
	return len(met) == len(rows)
}

// toldRows: the rows of the index that b is; false: it is none. Whether they are those of a directory isn't asked here.
func toldRows(b []byte) ([]row, bool) {
	if len(b) != api.Block {
		return nil, false
	}
	n := numberAt(b[:markAt])
	if n < leastRows || n > mostRows {
		return nil, false
	}
	rows := make([]row, n)
	for k := range rows {
		one := b[rowsAt+rowBytes*k:][:rowBytes]
		rows[k] = row{low: uint32(numberAt(one[:sumBytes])), block: int(numberAt(one[sumBytes:]))}
	}
	// The mark, unused bytes and the sum are all right just where the same bytes would be told of these rows.
	return rows, bytes.Equal(b, indexOf(rows))
}

// numberAt: the number that these bytes stand for.
func numberAt(b []byte) uint64 {
	v, _ := crc.Number(b)
	return v
}

// indexOf: the index of these rows.
func indexOf(rows []row) []byte {
	b := make([]byte, 0, api.Block)
	b = append(b, crc.Bytes(uint64(len(rows)), markAt)...)
	b = append(b, crc.Bytes(mark, rowsAt-markAt)...)
	for _, r := range rows {
		b = append(b, crc.Bytes(uint64(r.low), sumBytes)...)
		b = append(b, crc.Bytes(uint64(r.block), rowBytes-sumBytes)...)
	}
	b = append(b, make([]byte, sumAt-len(b))...)
	return append(b, crc.Bytes(uint64(crc.Sum(b)), api.Block-sumAt)...)
}

// leafOf: the leaf of these entries, in whatever order; false: they don't fit.
func leafOf(entries []entry) ([]byte, bool) {
	var l []api.Name
	for _, e := range entries {
		l = append(l, e.told())
	}
	slices.SortFunc(l, func(a, b api.Name) int { return cmp.Compare(a.Name, b.Name) })
	b, err := leaf.Encode(l)
	return b, err == api.OK
}
