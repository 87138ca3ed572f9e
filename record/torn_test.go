package record

import (
	"bytes"
	"encoding/binary"
	"math/rand"
	"slices"
	"testing"

	"undercroft/api"
)

// turned: b with these bits turned, from bit at on (1 being the lowest bit's worth of its byte).
func turned(b []byte, at int, bits uint32) []byte {
	c := bytes.Clone(b)
	for k := range 32 {
		if bits>>k&1 == 1 && at+k < 8*len(c) {
			c[(at+k)/8] ^= 1 << ((at + k) % 8)
		}
	}
	return c
}

// P3.3: changed within 32 bits side by side.

func TestTornByOneBit(t *testing.T) {
	for _, x := range []api.Txn{txn(1, 0, 1), txn(0, 1, 0), txn(1<<64-1, 2, 2), oneWrite(5, 5, make([]byte, 256))} {
		b := encoded(t, x)
		for at := range 8 * len(b) {
			wantNone(t, "one bit turned", turned(b, at, 1), x.Seq)
		}
	}
}

func TestTornWithin32Bits(t *testing.T) {
	r := rand.New(rand.NewSource(3))
	for _, x := range []api.Txn{txn(7, 0, 2), txn(8, 1, 1), txn(9, 2, 0)} {
		b := encoded(t, x)
		for at := range 8 * len(b) {
			wantNone(t, "all 32 bits turned", turned(b, at, 1<<32-1), x.Seq)
			wantNone(t, "first and last turned", turned(b, at, 1<<31|1), x.Seq)
			wantNone(t, "some bits turned", turned(b, at, r.Uint32()|1), x.Seq)
			wantNone(t, "few bits turned", turned(b, at, r.Uint32()&r.Uint32()&r.Uint32()|1), x.Seq)
		}
	}
}

func TestTornInEachOfManyBlocks(t *testing.T) {
	r := rand.New(rand.NewSource(4))
	for _, x := range records() {
		b := encoded(t, x)
		for range 60 {
			wantNone(t, "some bits turned", turned(b, r.Intn(8*len(b)), r.Uint32()|1), x.Seq)
		}
		for at := 256; at < len(b); at += 256 { // over the edges of blocks
			for k := range 32 {
				wantNone(t, "bits over an edge turned", turned(b, 8*at-k, r.Uint32()|1), x.Seq)
			}
		}
	}
}

// Four bytes that stand side by side become any others: noughts, ones, the mark, those of another place.
func TestTornByFourOtherBytes(t *testing.T) {
	x := txn(3, 3, 2)
	b := encoded(t, x)
	for at := 0; at+4 <= len(b); at++ {
		for _, four := range []string{"\x00\x00\x00\x00", "\xff\xff\xff\xff", "ULOG", "\x01\x00\x00\x00", "\x00\x00\x00\x80", string(b[:4]), string(b[252:256]), string(b[256:260])} {
			c := bytes.Clone(b)
			copy(c[at:], four)
			if !bytes.Equal(b, c) {
				wantNone(t, "four other bytes", c, 3)
			}
		}
	}
}

// Sectors of a crash: some of a record's are those that stood there before.
func TestTornBySectors(t *testing.T) {
	x, old := txn(9, 2, 1), txn(5, 2, 1)
	for i := range old.Writes {
		old.Writes[i].Data = noise(256, uint32(50+i))
	}
	b := encoded(t, x)
	for _, was := range [][]byte{make([]byte, len(b)), encoded(t, old), noise(len(b), 5)} {
		for kept := 0; kept < 1<<16-1; kept += 7 {
			c := bytes.Clone(was)
			for s := range 16 {
				if kept>>s&1 == 1 {
					copy(c[64*s:64*s+64], b[64*s:])
				}
			}
			if !bytes.Equal(b, c) {
				wantNone(t, "sectors that were there before", c, 9)
			}
		}
	}
}

// Blocks whose own sums are right, but that Encode wouldn't tell (P3.2: what Decode reads Encode tells again).

// changed: the blocks of x, changed by f, with their sums put right.
func changed(t *testing.T, x api.Txn, f func(b []byte)) []byte {
	t.Helper()
	b := encoded(t, x)
	f(b)
	return resealed(b, len(x.Writes))
}

func TestDecodeOfUnusedBytes(t *testing.T) {
	for _, x := range []api.Txn{txn(1, 0, 1), txn(2, 2, 3), txn(3, 57, 0), txn(4, 58, 0), txn(5, 29, 29)} {
		end := 256 * (len(x.Writes) + 1)
		var unused []int
		for at := 20 + 4*(len(x.Writes)+len(x.Revokes)); at < 252; at++ {
			unused = append(unused, at)
		}
		for at := 20; at < 252; at++ {
			unused = append(unused, end+at)
		}
		for at := 5; at < 8; at++ {
			unused = append(unused, at, end+at)
		}
		for _, at := range unused {
			for _, v := range []byte{1, 0x80, 0xff} {
				wantNone(t, "an unused byte", changed(t, x, func(b []byte) { b[at] = v }), x.Seq)
			}
		}
	}
}

func TestDecodeOfOtherKindsAndMarks(t *testing.T) {
	for _, x := range []api.Txn{txn(1, 0, 1), txn(2, 1, 0), txn(3, 2, 2)} {
		end := 256 * (len(x.Writes) + 1)
		for _, at := range []int{0, end} {
			for kind := range 256 {
				if at == 0 && kind == 1 || at == end && kind == 2 {
					continue
				}
				wantNone(t, "another kind", changed(t, x, func(b []byte) { b[at+4] = byte(kind) }), x.Seq)
			}
			for _, mark := range []string{"\x00\x00\x00\x00", "ulog", "ULOH", "VLOG", "UCFT", "GOLU"} {
				wantNone(t, "another mark", changed(t, x, func(b []byte) { copy(b[at:], mark) }), x.Seq)
			}
			for k := range 4 {
				wantNone(t, "a mark's byte", changed(t, x, func(b []byte) { b[at+k] ^= 0x20 }), x.Seq)
			}
		}
		wantNone(t, "kinds the other way round", changed(t, x, func(b []byte) { b[4], b[end+4] = 2, 1 }), x.Seq)
	}
}

func TestDecodeOfOtherSeqsInItsBlocks(t *testing.T) {
	for _, x := range []api.Txn{txn(1, 0, 1), txn(0, 1, 0), txn(1<<64-1, 2, 2)} {
		end := 256 * (len(x.Writes) + 1)
		for bit := range 64 {
			other := x.Seq ^ 1<<bit
			seal := func(at int) []byte {
				return changed(t, x, func(b []byte) { binary.LittleEndian.PutUint64(b[at+8:], other) })
			}
			for _, seq := range []uint64{x.Seq, other} {
				wantNone(t, "another Seq in the descriptor", seal(0), seq)
				wantNone(t, "another Seq in the commit", seal(end), seq)
			}
			both := changed(t, x, func(b []byte) {
				binary.LittleEndian.PutUint64(b[8:], other)
				binary.LittleEndian.PutUint64(b[end+8:], other)
			})
			wantNone(t, "another Seq in both", both, x.Seq)
			y := x
			y.Seq = other
			wantRead(t, "another Seq in both", both, y)
		}
	}
}

// withSlots: blocks with right sums, whose descriptor tells these counts and numbers, whatever they are, with these blocks between.
func withSlots(n, r int, numbers []uint32, blocks ...[]byte) []byte {
	rest := []byte{byte(n), byte(n >> 8), byte(r), byte(r >> 8)}
	for _, v := range numbers {
		rest = binary.LittleEndian.AppendUint32(rest, v)
	}
	b := append(plainOwn(1, 1, rest), slices.Concat(blocks...)...)
	all := binary.LittleEndian.AppendUint32(nil, plainSum(b))
	return append(b, plainOwn(2, 1, all)...)
}

func TestDecodeOfNumbers(t *testing.T) {
	data, zero, mark := block("any", 1), block("\x00\x00\x00\x00", 2), block("ULOG", 3)
	for _, v := range []uint32{0, 5, 1<<20 - 1} {
		wantRead(t, "a Write", withSlots(1, 0, []uint32{v}, data), oneWrite(1, int(v), data))
		wantRead(t, "a Write of noughts", withSlots(1, 0, []uint32{v}, zero), oneWrite(1, int(v), zero))
		wantRead(t, "a Revoke", withSlots(0, 1, []uint32{v}), api.Txn{Seq: 1, Revokes: []int{int(v)}})
		got := append([]byte("ULOG"), zero[4:]...)
		wantRead(t, "a Write without its mark", withSlots(1, 0, []uint32{v + 1<<31}, zero), oneWrite(1, int(v), got))

		wantNone(t, "a mark that was let stand", withSlots(1, 0, []uint32{v}, mark), 1)
		wantNone(t, "a mark that was let stand and told of", withSlots(1, 0, []uint32{v + 1<<31}, mark), 1)
		wantNone(t, "told of a mark that wasn't there", withSlots(1, 0, []uint32{v + 1<<31}, data), 1)
		wantNone(t, "a Revoke with a mark", withSlots(0, 1, []uint32{v + 1<<31}), 1)
		for k := range 4 { // one byte that isn't 0
			almost := bytes.Clone(zero)
			almost[k] = 1
			wantNone(t, "told of a mark, not all 0", withSlots(1, 0, []uint32{v + 1<<31}, almost), 1)
		}
		for bit := 20; bit < 31; bit++ {
			for _, high := range []uint32{0, 1 << 31} {
				w := v + 1<<bit + high
				wantNone(t, "a Write's high bit", withSlots(1, 0, []uint32{w}, zero), 1)
				wantNone(t, "a Revoke's high bit", withSlots(0, 1, []uint32{w}), 1)
				wantNone(t, "a high bit among others", withSlots(2, 1, []uint32{7, w, 8}, data, zero), 1)
			}
		}
	}
	for _, v := range []uint32{1 << 20, 1<<31 - 1, 1<<31 + 1<<20, 1<<32 - 1} {
		wantNone(t, "a Write's number", withSlots(1, 0, []uint32{v}, zero), 1)
		wantNone(t, "a Revoke's number", withSlots(0, 1, []uint32{v}), 1)
	}
}

func TestDecodeOfANumberTwice(t *testing.T) {
	data, zero := block("any", 1), block("\x00\x00\x00\x00", 2)
	for _, v := range []uint32{0, 5, 1<<20 - 1} {
		wantNone(t, "among the Writes", withSlots(2, 0, []uint32{v, v}, data, zero), 1)
		wantNone(t, "among the Writes, with and without a mark", withSlots(2, 0, []uint32{v, v + 1<<31}, data, zero), 1)
		wantNone(t, "among the Revokes", withSlots(0, 2, []uint32{v, v}), 1)
		wantNone(t, "among both", withSlots(1, 1, []uint32{v, v}, data), 1)
		wantNone(t, "among both, with a mark", withSlots(1, 1, []uint32{v + 1<<31, v}, zero), 1)
		wantNone(t, "not side by side", withSlots(2, 2, []uint32{v, 7, 8, v}, data, zero), 1)
	}
}

func TestDecodeOfCounts(t *testing.T) {
	var numbers []uint32
	for i := range 58 {
		numbers = append(numbers, uint32(i))
	}
	blocks := func(n int) [][]byte {
		var l [][]byte
		for i := range n {
			l = append(l, block("any", uint32(i)))
		}
		return l
	}
	wantNone(t, "no Writes and no Revokes", withSlots(0, 0, nil), 1)
	wantNone(t, "no Writes and no Revokes, but numbers", withSlots(0, 0, numbers), 1)
	for _, c := range [][2]int{{59, 0}, {0, 59}, {1, 58}, {58, 1}, {30, 29}, {60, 0}, {58, 58}, {0, 65535}, {0, 256}, {1, 65535}} {
		wantNone(t, "59 and more", withSlots(c[0], c[1], numbers, blocks(c[0])...), 1)
	}
	wantNone(t, "all counts at their most", withSlots(65535, 65535, numbers, blocks(58)...), 1)
	wantNone(t, "65535 Writes that are there", withSlots(65535, 1, numbers, make([]byte, 65535*256)), 1)
	for n := range 4 {
		for r := range 4 {
			for there := range 5 {
				if there != n {
					wantNone(t, "another number of blocks", withSlots(n, r, numbers[:n+r], blocks(there)...), 1)
				}
			}
			for slots := range 8 {
				b := withSlots(n, r, numbers[:slots], blocks(n)...)
				if slots < n+r && n+r > 1 { // those that aren't there are read as 0, which is there
					wantNone(t, "fewer numbers", b, 1)
				}
				if slots > n+r {
					wantNone(t, "more numbers", b, 1)
				}
			}
		}
	}
}

func TestDecodeOfSums(t *testing.T) {
	x := txn(1, 2, 1)
	b := encoded(t, x)
	end := len(b) - 256
	for bit := range 32 {
		c := turned(b, 8*(end+16)+bit, 1) // the sum of all is another one, the commit's own sum is right
		binary.LittleEndian.PutUint32(c[end+252:], plainSum(c[end:end+252]))
		wantNone(t, "another sum of all", c, 1)
	}
	for at := 256; at < end; at += 37 { // a byte of data is another one, the commit being as it was
		c := bytes.Clone(b)
		c[at]++
		wantNone(t, "another byte of data", c, 1)
	}
	for k := range 2 { // two blocks that change places
		c := bytes.Clone(b)
		copy(c[256*k:], b[256*(k+1):256*(k+2)])
		copy(c[256*(k+1):], b[256*k:256*(k+1)])
		wantNone(t, "blocks that changed places", c, 1)
	}
}

// P3.1 and P3.2 of any bytes: what Decode reads is what the document's words read, and Encode tells it again.

// anyRecord: a record that may be, of any numbers and data, few of each kind.
func anyRecord(r *rand.Rand) api.Txn {
	x := api.Txn{Seq: uint64(r.Intn(3))}
	numbers := r.Perm(60)
	n, k := r.Intn(5), r.Intn(4)
	for i := range n {
		first := []string{"", "ULOG", "\x00\x00\x00\x00", "ULO"}[r.Intn(4)]
		x.Writes = append(x.Writes, api.Write{Block: numbers[i], Data: block(first, r.Uint32())})
	}
	for i := range k {
		x.Revokes = append(x.Revokes, numbers[n+i])
	}
	if n+k == 0 {
		x.Revokes = []int{1}
	}
	return x
}

// spoil: some bytes of b become others, mostly where they mean something.
func spoil(r *rand.Rand, b []byte) {
	for range r.Intn(3) {
		at := r.Intn(len(b))
		switch r.Intn(4) {
		case 0:
			at = r.Intn(60)
		case 1:
			at = at / 256 * 256
		case 2:
			at = at/256*256 + r.Intn(24)
		}
		switch r.Intn(5) {
		case 0:
			b[at] ^= 1 << r.Intn(8)
		case 1:
			b[at] = byte(r.Intn(4))
		case 2:
			copy(b[at:], "ULOG")
		case 3:
			copy(b[at:], "\x00\x00\x00\x00")
		case 4:
			b[at] ^= 0x80
		}
	}
}

func TestDecodeOfAnyBytes(t *testing.T) {
	r := rand.New(rand.NewSource(7))
	read := 0
	for range 60000 {
		x := anyRecord(r)
		b := encoded(t, x)
		spoil(r, b)
		if r.Intn(8) > 0 {
			b = resealed(b, len(x.Writes))
		}
		b = append(b, noise(r.Intn(300), r.Uint32())...)
		want, blocks, ok := plainDecode(b, x.Seq)
		got, n, is := Decode(b, x.Seq)
		if is != ok || n != blocks || !sameTxn(got, want) {
			t.Fatalf("Decode: %v, %d blocks, want %v, %d blocks, of\n%x", is, n, ok, blocks, b)
		}
		if !is {
			continue
		}
		read++
		if again := encoded(t, got); !bytes.Equal(again, b[:256*n]) {
			t.Fatalf("Encode tells other blocks than were read, of\n%x", b)
		}
	}
	if read < 10000 || read > 50000 {
		t.Errorf("%d of 60000 were read: the test asks too little", read)
	}
}

func TestEncodeOfAnyRecords(t *testing.T) {
	r := rand.New(rand.NewSource(8))
	told := 0
	for range 20000 {
		x := anyRecord(r)
		if k := len(x.Writes); k > 0 && r.Intn(4) == 0 {
			x.Writes[r.Intn(k)].Block = []int{-1, 0, 1, 2, 1<<20 - 1, 1 << 20, 1 << 31}[r.Intn(7)]
		}
		if k := len(x.Revokes); k > 0 && r.Intn(4) == 0 {
			x.Revokes[r.Intn(k)] = []int{-1, 0, 1, 2, 1<<20 - 1, 1 << 20, 1 << 31}[r.Intn(7)]
		}
		if k := len(x.Writes); k > 0 && r.Intn(8) == 0 {
			x.Writes[r.Intn(k)].Data = noise(250+r.Intn(12), r.Uint32())
		}
		want, ok := plainEncode(x)
		b, err := Encode(x)
		if ok != (err == api.OK) || !bytes.Equal(b, want) || !ok && err != api.ErrLog {
			t.Fatalf("Encode of %v: error %d, want %v", x, err, ok)
		}
		if ok {
			told++
			wantRead(t, "what Encode tells", b, x)
		}
	}
	if told < 5000 || told > 18000 {
		t.Errorf("%d of 20000 were told: the test asks too little", told)
	}
}
