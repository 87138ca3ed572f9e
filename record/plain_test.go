package record

import (
	"bytes"
	"encoding/binary"
	"hash/crc32"
	"slices"
	"testing"

	"undercroft/api"
)

// The document's words, said as plainly as can be: plainEncode and plainDecode tell and read a record without the package.

func plainSum(b []byte) uint32 { return crc32.Checksum(b, crc32.MakeTable(crc32.Castagnoli)) }

func plainMayBe(t api.Txn) bool {
	var numbers []int
	for _, w := range t.Writes {
		if len(w.Data) != 256 {
			return false
		}
		numbers = append(numbers, w.Block)
	}
	numbers = append(numbers, t.Revokes...)
	for i, n := range numbers {
		if n < 0 || n > 1<<20-1 || slices.Contains(numbers[:i], n) {
			return false
		}
	}
	return len(numbers) >= 1 && len(numbers) <= 58
}

// plainOwn: a descriptor (1) or a commit (2), of what stands behind its Seq.
func plainOwn(kind byte, seq uint64, rest []byte) []byte {
	b := []byte{'U', 'L', 'O', 'G', kind, 0, 0, 0}
	b = binary.LittleEndian.AppendUint64(b, seq)
	b = append(b, rest...)
	for len(b) < 252 {
		b = append(b, 0)
	}
	return binary.LittleEndian.AppendUint32(b, plainSum(b))
}

func plainEncode(t api.Txn) ([]byte, bool) {
	if !plainMayBe(t) {
		return nil, false
	}
	rest := binary.LittleEndian.AppendUint16(nil, uint16(len(t.Writes)))
	rest = binary.LittleEndian.AppendUint16(rest, uint16(len(t.Revokes)))
	var blocks []byte
	for _, w := range t.Writes {
		n, data := uint32(w.Block), bytes.Clone(w.Data)
		if string(data[:4]) == "ULOG" {
			n += 1 << 31
			copy(data, "\x00\x00\x00\x00")
		}
		rest = binary.LittleEndian.AppendUint32(rest, n)
		blocks = append(blocks, data...)
	}
	for _, n := range t.Revokes {
		rest = binary.LittleEndian.AppendUint32(rest, uint32(n))
	}
	b := append(plainOwn(1, t.Seq, rest), blocks...)
	all := binary.LittleEndian.AppendUint32(nil, plainSum(b))
	return append(b, plainOwn(2, t.Seq, all)...), true
}

// plainIsOwn: whether b is a block of that kind and Seq, its sum right, and 0 from byte used to its sum.
func plainIsOwn(b []byte, kind byte, seq uint64, used int) bool {
	return string(b[:4]) == "ULOG" && b[4] == kind && b[5] == 0 && b[6] == 0 && b[7] == 0 &&
		binary.LittleEndian.Uint64(b[8:]) == seq &&
		bytes.Equal(b[used:252], make([]byte, 252-used)) &&
		binary.LittleEndian.Uint32(b[252:]) == plainSum(b[:252])
}

func plainDecode(b []byte, seq uint64) (t api.Txn, blocks int, ok bool) {
	if len(b) < 512 {
		return api.Txn{}, 0, false
	}
	n, r := int(binary.LittleEndian.Uint16(b[16:])), int(binary.LittleEndian.Uint16(b[18:]))
	if n+r < 1 || n+r > 58 || len(b) < 256*(n+2) || !plainIsOwn(b[:256], 1, seq, 20+4*(n+r)) {
		return api.Txn{}, 0, false
	}
	end := b[256*(n+1) : 256*(n+2)]
	if !plainIsOwn(end, 2, seq, 20) || binary.LittleEndian.Uint32(end[16:]) != plainSum(b[:256*(n+1)]) {
		return api.Txn{}, 0, false
	}
	t.Seq = seq
	for i := range n + r {
		v := binary.LittleEndian.Uint32(b[20+4*i:])
		if i >= n {
			t.Revokes = append(t.Revokes, int(v))
			continue
		}
		data := bytes.Clone(b[256*(i+1) : 256*(i+2)])
		if string(data[:4]) == "ULOG" {
			return api.Txn{}, 0, false
		}
		if v >= 1<<31 {
			if string(data[:4]) != "\x00\x00\x00\x00" {
				return api.Txn{}, 0, false
			}
			v -= 1 << 31
			copy(data, "ULOG")
		}
		t.Writes = append(t.Writes, api.Write{Block: int(v), Data: data})
	}
	if !plainMayBe(t) {
		return api.Txn{}, 0, false
	}
	return t, n + 2, true
}

// resealed: b, the blocks of a record of n Writes, with all three sums put right for what else stands in it.
func resealed(b []byte, n int) []byte {
	b = bytes.Clone(b)
	binary.LittleEndian.PutUint32(b[252:], plainSum(b[:252]))
	end := b[256*(n+1) : 256*(n+2)]
	binary.LittleEndian.PutUint32(end[16:], plainSum(b[:256*(n+1)]))
	binary.LittleEndian.PutUint32(end[252:], plainSum(end[:252]))
	return b
}

// noise: n bytes that look like any, and are the same each time.
func noise(n int, seed uint32) []byte {
	b := make([]byte, n)
	for i := range b {
		seed = seed*1664525 + 1013904223
		b[i] = byte(seed >> 24)
	}
	return b
}

// block: a block of noise that begins with first.
func block(first string, seed uint32) []byte {
	b := noise(256, seed)
	copy(b, first)
	return b
}

// txn: a record of n Writes and r Revokes; every third block begins with ULOG, every third with four bytes 0.
func txn(seq uint64, n, r int) api.Txn {
	t := api.Txn{Seq: seq}
	for i := range n {
		first := []string{"ULOG", "\x00\x00\x00\x00", "any"}[i%3]
		t.Writes = append(t.Writes, api.Write{Block: 1<<20 - 1 - 7*i, Data: block(first, uint32(i))})
	}
	for i := range r {
		t.Revokes = append(t.Revokes, 5*i)
	}
	return t
}

// oneWrite: a record of one Write.
func oneWrite(seq uint64, number int, data []byte) api.Txn {
	return api.Txn{Seq: seq, Writes: []api.Write{{Block: number, Data: data}}}
}

// blocksOf: a record of Writes of these blocks, from number 1 on.
func blocksOf(seq uint64, blocks ...[]byte) api.Txn {
	t := api.Txn{Seq: seq}
	for i, b := range blocks {
		t.Writes = append(t.Writes, api.Write{Block: i + 1, Data: b})
	}
	return t
}

// records: records of many kinds, all of which may be.
func records() []api.Txn {
	own := plainOwn(2, 9, nil)
	l := []api.Txn{
		oneWrite(1, 5, make([]byte, 256)),
		oneWrite(0, 0, bytes.Repeat([]byte{255}, 256)),
		oneWrite(1<<64-1, 1<<20-1, noise(256, 1)),
		oneWrite(9, 0, own),
		oneWrite(10, 1<<20-1, plainOwn(1, 10, []byte{0, 0, 1, 0, 5, 0, 0, 0})),
		{Seq: 3, Revokes: []int{5}},
		{Seq: 0, Revokes: []int{0}},
		{Seq: 1<<64 - 1, Revokes: []int{1<<20 - 1}},
		{Seq: 1 << 63, Revokes: []int{1<<20 - 1, 0, 1 << 19}},
		{Seq: 1 << 32, Writes: []api.Write{{Block: 3, Data: own}}, Revokes: []int{2, 4}},
		blocksOf(4, block("ULOG", 1), block("ULOG", 2), block("ULOG", 3)),
		blocksOf(5, block("ULO\x00", 1), block("ULOG", 2), block("ULO", 3), block("\x00LOG", 4)),
		blocksOf(6, block("\x00\x00\x00\x00", 1), block("ULOG", 2), block("\x00\x00\x00\x00", 3), block("ULOG", 4)),
		blocksOf(7, block("ULOG\x00\x00\x00\x00", 1), block("\x00\x00\x00\x00ULOG", 2), block("\x00ULOG", 3)),
		blocksOf(8, make([]byte, 256), block("ULOG", 3), make([]byte, 256)),
		blocksOf(11, block("ulog", 1), block("GOLU", 2), block("ULOF", 3), block("ULOH", 4), block("TLOG", 5)),
	}
	for _, c := range [][2]int{{1, 0}, {0, 1}, {2, 0}, {0, 2}, {1, 1}, {3, 4}, {58, 0}, {0, 58}, {57, 1}, {1, 57}, {29, 29}} {
		l = append(l, txn(uint64(100*c[0]+c[1]), c[0], c[1]))
	}
	return l
}

// sameTxn: whether two records are alike; a list that holds nothing may be nil or empty.
func sameTxn(a, b api.Txn) bool {
	return a.Seq == b.Seq && slices.Equal(a.Revokes, b.Revokes) &&
		slices.EqualFunc(a.Writes, b.Writes, func(x, y api.Write) bool {
			return x.Block == y.Block && bytes.Equal(x.Data, y.Data)
		})
}

// encoded: the blocks of a record that may be.
func encoded(t *testing.T, x api.Txn) []byte {
	t.Helper()
	b, err := Encode(x)
	if err != api.OK {
		t.Fatalf("Encode of %d Writes and %d Revokes: error %d", len(x.Writes), len(x.Revokes), err)
	}
	return b
}

// wantRefused: Encode answers ErrLog and nothing else.
func wantRefused(t *testing.T, what string, x api.Txn) {
	t.Helper()
	if b, err := Encode(x); len(b) != 0 || err != api.ErrLog {
		t.Errorf("%s: %d bytes, error %d, want ErrLog", what, len(b), err)
	}
}

// wantRead: Decode reads x out of b.
func wantRead(t *testing.T, what string, b []byte, x api.Txn) {
	t.Helper()
	got, n, ok := Decode(b, x.Seq)
	if !ok || n != len(x.Writes)+2 || !sameTxn(got, x) {
		t.Errorf("%s: %v, %d blocks, %d Writes, %d Revokes, want %d blocks", what, ok, n, len(got.Writes), len(got.Revokes), len(x.Writes)+2)
	}
}

// wantNone: Decode reads nothing with that Seq out of b.
func wantNone(t *testing.T, what string, b []byte, seq uint64) {
	t.Helper()
	if got, n, ok := Decode(b, seq); ok || n != 0 || !isZero(got) {
		t.Errorf("%s: %v, %d blocks, Seq %d, %d Writes, %d Revokes, want nothing", what, ok, n, got.Seq, len(got.Writes), len(got.Revokes))
	}
}

func isZero(t api.Txn) bool { return t.Seq == 0 && len(t.Writes) == 0 && len(t.Revokes) == 0 }

func TestResealedIsTheSameWhereNothingWasChanged(t *testing.T) {
	for i, x := range records() {
		b, _ := plainEncode(x)
		if !bytes.Equal(resealed(b, len(x.Writes)), b) {
			t.Errorf("record %d: other sums", i)
		}
	}
}
