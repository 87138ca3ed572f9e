package replay

import (
	"bytes"
	"encoding/binary"
	"hash/crc32"
	"math"
	"testing"

	"undercroft/api"
	"undercroft/disk"
	"undercroft/log"
	"undercroft/record"
)

// P5.1: which areas and heads may be.

func TestExamples(t *testing.T) {
	a := span{24, 0, 16}
	d := formatted(t, a)
	wantChain(t, "a new log", d, a, nil)
	wantRecover(t, "a new log", d, a, 0)
	if seq, place := opened(t, d, a).Next(); seq != 1+16 || place != 0 {
		t.Errorf("a new log, behind Recover: Seq %d, place %d, want 17, 0", seq, place)
	}
	d = formatted(t, a)
	live := appended(t, opened(t, d, a), writing(to(20, 1)), writing(to(21, 2))) // pending writes 0 to 2, and 3 to 5
	one := d.Copy()
	one.Crash(all(one))
	wantChain(t, "all bytes kept", one, a, live)
	wantRecover(t, "all bytes kept", one, a, 2)
	wantRead(t, one, 20, filled(1))
	wantRead(t, one, 21, filled(2))
	d.Crash(kept(3, 4, 5))
	wantChain(t, "the second one kept alone", d, a, nil)
	wantRecover(t, "the second one kept alone", d, a, 0)
	wantRead(t, d, 20, make([]byte, 256))
	wantRead(t, d, 21, make([]byte, 256))
}

func TestAreasThatMayBe(t *testing.T) {
	for _, a := range []span{{8, 0, 8}, {9, 1, 8}, {9, 0, 9}, {16, 8, 8}, {16, 7, 9}, {128, 35, 36}, {1024, 0, 8}, {1024, 1016, 8}, {1024, 0, 1024}, {1024, 1, 1023}} {
		wantRefused(t, "ahead of Format", newDisk(t, a.blocks), a, api.ErrClean)
		wantChain(t, "a new log", formatted(t, a), a, nil)
		wantRecover(t, "a new log", formatted(t, a), a, 0)
	}
}

func TestAreasThatMayNotBe(t *testing.T) {
	l := []span{
		{16, 0, 7}, {16, 3, 7}, {16, 0, 0}, {16, 0, 1}, {16, 0, -1}, {16, 16, -8}, {16, 0, math.MinInt}, {16, 0, math.MaxInt},
		{1024, 0, 7}, {1024, 0, 1025}, {1024, 0, 2048}, {1024, 0, 1<<32 + 8}, {1024, 0, math.MaxInt},
		{16, -1, 8}, {16, -8, 16}, {16, -1, 17}, {16, math.MinInt, 8}, {16, math.MinInt, math.MinInt}, {16, math.MinInt, math.MaxInt},
		{16, 9, 8}, {16, 8, 9}, {16, 0, 17}, {16, 15, 8}, {16, 16, 8}, {16, 1 << 32, 8}, {16, math.MaxInt, 8}, {16, math.MaxInt - 7, 8}, {16, math.MaxInt, math.MaxInt},
		{1024, 1017, 8}, {1024, 1, 1024}, {1024, -1, 1024}, {1024, -1, 1025}, {7, 0, 8}, {7, 0, 7}, {1, 0, 8}, {1, 0, 1},
	}
	for _, a := range l {
		d := newDisk(t, a.blocks)
		wantRefused(t, "without a head", d, a, api.ErrArg) // ahead of ErrClean
		for i := range min(a.blocks, 20) {
			play(t, d, op{i, plainHead(1, 0)})
		}
		wantRefused(t, "heads at each block", d, a, api.ErrArg)
	}
}

func TestNoDisk(t *testing.T) {
	for _, d := range []*disk.Disk{nil, {}} {
		for _, a := range []span{{0, 0, 8}, {0, 0, 7}, {0, 0, 0}, {0, -1, 8}, {0, -8, 8}, {0, math.MinInt, 8}, {0, math.MaxInt, math.MaxInt}, {0, 0, 1024}} {
			wantRefused(t, "no disk", d, a, api.ErrArg)
		}
	}
}

// wantNoHead: b is no head, though a record stands behind it.
func wantNoHead(t *testing.T, what string, b []byte) {
	t.Helper()
	a := span{24, 3, 10}
	d := headed(t, a, 1, 0, false)
	layAll(t, d, a, 1, 0, writing(to(20, 1)))
	play(t, d, op{3, b})
	wantRefused(t, what, d, a, api.ErrClean)
}

func TestHeadsThatMayNotBe(t *testing.T) {
	good := plainHead(1, 0)
	for bit := range 8 * 256 {
		b := bytes.Clone(good)
		b[bit/8] ^= 1 << (bit % 8)
		wantNoHead(t, "a bit turned", b)
	}
	for i := range 8 { // the mark, the kind, and the noughts behind it
		b := bytes.Clone(good)
		b[i] ^= 1
		wantNoHead(t, "another beginning, with its sum", sealed(b[:20]))
	}
	for _, place := range []uint32{9, 10, 255, 256, 1 << 16, 1<<31 - 1, 1 << 31, 1<<32 - 1} {
		wantNoHead(t, "a place that the ring has not", plainHead(1, place))
	}
	blocks := encoded(t, api.Txn{Seq: 1, Revokes: []int{1}})
	wantNoHead(t, "a descriptor", blocks[:256])
	wantNoHead(t, "a commit", blocks[256:])
	wantNoHead(t, "noughts", make([]byte, 256))
	wantNoHead(t, "ones", filled(255))
	wantNoHead(t, "noise", noise(256, 1))
	wantNoHead(t, "a sum of noughts", sealed(nil))
}

// P5.1: what the chain is.

func TestScanAndRecover(t *testing.T) {
	for _, a := range []span{{40, 0, 20}, {40, 7, 20}, {40, 20, 20}} {
		for place := range a.ring() {
			for _, seq := range []uint64{0, 1, 70, 1 << 40} {
				d := headed(t, a, seq, place, true)
				want, behind := layAll(t, d, a, seq, place, a.some(2, 1, 1), a.some(0, 3, 2), a.some(4, 0, 3), a.some(1, 5, 4))
				wantChain(t, "four records", d, a, want)
				wantRecover(t, "four records", d, a, 4)
				wantRead(t, d, a.start, plainHead(seq+4+20, uint32(behind)))
				wantRead(t, d, a.placed(behind), make([]byte, 256))
				wantChain(t, "behind Recover", d, a, nil)
			}
		}
	}
}

func TestNoRecord(t *testing.T) {
	a := span{24, 5, 10}
	for _, noisy := range []bool{false, true} {
		for place := range a.ring() {
			d := headed(t, a, 50, place, noisy)
			wantChain(t, "no record", d, a, nil)
			wantOps(t, "no record", d, func(d *disk.Disk) { wantRecover(t, "no record", d, a, 0) },
				[]op{flush, {a.placed(place), make([]byte, 256)}, {5, plainHead(60, uint32(place))}, flush})
		}
	}
}

func TestScanWritesNothing(t *testing.T) {
	a := span{24, 5, 10}
	d := headed(t, a, 3, 7, true)
	want, _ := layAll(t, d, a, 3, 7, a.some(2, 1, 1), a.some(0, 2, 2))
	play(t, d, op{20, filled(1)})
	if d.Pending() == 0 {
		t.Fatal("the test asks for pending writes")
	}
	wantOps(t, "Scan", d, func(d *disk.Disk) { wantChain(t, "two records", d, a, want) }, nil)
}

// The chain is of what is read: pending writes and ghosts too.
func TestTheChainOfWhatIsRead(t *testing.T) {
	a := span{24, 5, 10}
	d := headed(t, a, 3, 7, false)
	first, place := layAll(t, d, a, 3, 7, a.some(1, 0, 1))
	d.Flush()
	wantChain(t, "one that is stable", d, a, first)
	second, place := layAll(t, d, a, 4, place, a.some(0, 1, 2))
	wantChain(t, "one that is pending", d, a, append(first, second...))
	d.Fuse(0)
	third, _ := layAll(t, d, a, 5, place, a.some(1, 1, 3))
	wantChain(t, "one that is a ghost", d, a, append(append(first, second...), third...))
	play(t, d, op{5, plainHead(4, 1)})
	wantChain(t, "a head that is a ghost", d, a, append(second, third...))
	wantRecover(t, "a head that is a ghost", d, a, 2)
	wantChain(t, "behind Recover", d, a, nil)
	d.Crash(nil)
	wantChain(t, "behind a crash", d, a, first)
}

// A chain that fills the ring just up: behind it stands its own first place.
func TestTheRingFull(t *testing.T) {
	a := span{40, 4, 12}
	for place := range a.ring() {
		for _, records := range [][]api.Txn{
			{a.some(9, 0, 1)},
			{a.some(9, 5, 1)},
			{a.some(2, 0, 1), a.some(5, 1, 2)},
			{a.some(0, 1, 1), a.some(0, 2, 2), a.some(0, 3, 3), a.some(1, 0, 4), a.some(0, 1, 5)},
		} {
			d := headed(t, a, 9, place, false)
			want, behind := layAll(t, d, a, 9, place, records...)
			if behind != place {
				t.Fatal("the test asks for a full ring")
			}
			wantChain(t, "the ring full", d, a, want)
			ops := append(home(want), flush, op{a.placed(place), make([]byte, 256)}, op{4, plainHead(9+uint64(len(want))+12, uint32(place))}, flush)
			wantOps(t, "the ring full", d, func(d *disk.Disk) { wantRecover(t, "the ring full", d, a, len(want)) }, ops)
			wantRecover(t, "the ring full", d, a, len(want))
			wantChain(t, "behind Recover", d, a, nil)
		}
	}
}

// A next record that would have more blocks than the ring has left.
func TestNoRoomForTheNext(t *testing.T) {
	a := span{40, 4, 12} // 11 places
	for place := range a.ring() {
		for n := 1; n < 10; n++ { // blocks that the next one has there: so many of 10
			d := headed(t, a, 9, place, false)
			first, behind := layAll(t, d, a, 9, place, a.some(11-n-2, 1, 1))
			next := a.some(8, 0, 5)
			next.Seq = 10
			lay(t, d, a, behind, encoded(t, next)[:256*n])
			wantChain(t, "a record with too many blocks", d, a, first)
			wantRecover(t, "a record with too many blocks", d, a, 1)
		}
		d := headed(t, a, 9, place, false)
		x := a.some(10, 0, 5)
		x.Seq = 9
		lay(t, d, a, place, encoded(t, x)[:256*11])
		wantChain(t, "a first record with too many blocks", d, a, nil)
		lay(t, d, a, place, encoded(t, x))
		wantChain(t, "one that writes over its own beginning", d, a, nil)
	}
}

// A record that the ring's end parts behind each of its blocks, between others.
func TestRoundTheRing(t *testing.T) {
	a := span{48, 3, 20} // 19 places
	for place := range a.ring() {
		d := headed(t, a, 1<<33, place, true)
		want, behind := layAll(t, d, a, 1<<33, place, a.some(1, 2, 1), a.some(9, 1, 2), a.some(0, 1, 3))
		if behind != (place+16)%19 {
			t.Fatal("the test asks for 16 blocks")
		}
		wantChain(t, "round the ring", d, a, want)
		ops, n := plainRecover(d.Image(), a, 1<<33, place)
		wantOps(t, "round the ring", d, func(d *disk.Disk) { wantRecover(t, "round the ring", d, a, n) }, ops)
	}
}

func TestTheGreatestRings(t *testing.T) {
	a := span{1024, 1, 1023}
	d := headed(t, a, 5, 1000, false)
	var records []api.Txn
	for range 511 { // 1022 blocks
		records = append(records, revoking(0))
	}
	want, _ := layAll(t, d, a, 5, 1000, records...)
	wantChain(t, "511 records", d, a, want)
	wantRecover(t, "511 records", d, a, 511)
	wantRead(t, d, 1, plainHead(5+511+1023, 1000))
	d = headed(t, a, 5, 1021, false)
	records = records[:0]
	for k := range 340 { // 1020 blocks
		records = append(records, writing(to(0, byte(k))))
	}
	want, _ = layAll(t, d, a, 5, 1021, records...)
	wantChain(t, "340 records", d, a, want)
	wantRecover(t, "340 records", d, a, 340)
	wantRead(t, d, 0, filled(83)) // 339 as a byte
	a = span{1024, 0, 1024}       // no block is outside of it
	d = headed(t, a, 5, 1022, false)
	layAll(t, d, a, 5, 1022, revoking(1<<20-1))
	wantChain(t, "an area that is all of the disk", d, a, nil)
	wantRecover(t, "an area that is all of the disk", d, a, 0)
	a = span{200, 0, 64}
	d = headed(t, a, 5, 30, false)
	want, _ = layAll(t, d, a, 5, 30, a.some(58, 0, 1), a.some(0, 58, 2))
	wantChain(t, "58 Writes, and 58 Revokes", d, a, want)
	wantRecover(t, "58 Writes, and 58 Revokes", d, a, 2)
}

// Behind two good records stands one with the right Seq that may not be in the chain, and behind that a good one again.
func wantEnd(t *testing.T, what string, a span, bad []byte) {
	t.Helper()
	for _, place := range []int{0, 12, 17} {
		d := headed(t, a, 30, place, false)
		good, behind := layAll(t, d, a, 30, place, a.some(1, 1, 1), a.some(0, 2, 2))
		layAll(t, d, a, 33, lay(t, d, a, behind, bad), a.some(1, 0, 3))
		wantChain(t, what, d, a, good)
		ops := append(home(good), flush, op{a.placed(behind), make([]byte, 256)}, op{a.start, plainHead(32+uint64(a.length), uint32(behind))}, flush)
		wantOps(t, what, d, func(d *disk.Disk) { wantRecover(t, what, d, a, 2) }, ops)
	}
}

// bad: the area's blocks of which tests ask what stands behind two good records.
var bad = span{40, 6, 20}

func TestTornRecords(t *testing.T) {
	x := bad.some(2, 1, 5)
	x.Seq = 32
	good := encoded(t, x)
	if bytes.Equal(good[256:264], make([]byte, 8)) {
		t.Fatal("the test asks for data that isn't 0")
	}
	for sector := range len(good) / 64 {
		b := bytes.Clone(good)
		clear(b[64*sector : 64*sector+64])
		if !bytes.Equal(b, good) {
			wantEnd(t, "a sector that was lost", bad, b)
		}
	}
	for block := range len(good) / 256 {
		b := bytes.Clone(good)
		clear(b[256*block : 256*block+256])
		wantEnd(t, "a block that was lost", bad, b)
	}
	for bit := 0; bit < 8*len(good); bit += 37 {
		b := bytes.Clone(good)
		b[bit/8] ^= 1 << (bit % 8)
		wantEnd(t, "a bit turned", bad, b)
	}
	wantEnd(t, "a head in its place", bad, plainHead(32, 0))
	wantEnd(t, "noughts", bad, make([]byte, 512))
	wantEnd(t, "noise", bad, noise(1024, 9))
}

func sum(b []byte) uint32 { return crc32.Checksum(b, crc32.MakeTable(crc32.Castagnoli)) }

// resealed: a record's descriptor told anew by change, with its sum, and a commit with the sums of what stands ahead of it.
func resealed(b []byte, change func(b []byte)) []byte {
	b = bytes.Clone(b)
	change(b)
	end := len(b) - 256
	binary.LittleEndian.PutUint32(b[252:], sum(b[:252]))
	binary.LittleEndian.PutUint32(b[end+16:], sum(b[:end]))
	binary.LittleEndian.PutUint32(b[end+252:], sum(b[end:end+252]))
	return b
}

func TestResealedRecords(t *testing.T) {
	x := api.Txn{Seq: 32, Writes: []api.Write{to(1, 1), to(2, 2)}, Revokes: []int{3}}
	good := encoded(t, x)
	if !bytes.Equal(resealed(good, func([]byte) {}), good) {
		t.Fatal("the test reseals other than the document says")
	}
	number := func(slot int, v uint32) func([]byte) {
		return func(b []byte) { binary.LittleEndian.PutUint32(b[20+4*slot:], v) }
	}
	for slot := range 3 {
		for _, block := range []uint32{6, 7, 24, 25, 40, 41, 1023, 1024, 1<<20 - 1, 1 << 20, 1 << 30, 1<<32 - 1} {
			wantEnd(t, "a block of the area, or none of the disk's", bad, resealed(good, number(slot, block)))
		}
	}
	wantEnd(t, "two Writes to a block", bad, resealed(good, number(1, 1)))
	wantEnd(t, "a Revoke of what the same record writes", bad, resealed(good, number(2, 2)))
	wantEnd(t, "a Revoke that is a Write's", bad, resealed(good, number(2, 1<<31+3)))
	wantEnd(t, "a Write whose data had no mark", bad, resealed(good, func(b []byte) { b[23] |= 0x80 }))
	wantEnd(t, "bytes behind the slots", bad, resealed(good, func(b []byte) { b[33] = 1 }))
	wantEnd(t, "another Seq in the descriptor", bad, resealed(good, func(b []byte) { b[8]++ }))
	wantEnd(t, "another Seq in the commit", bad, resealed(good, func(b []byte) { b[3*256+8]++ }))
	wantEnd(t, "no Writes and no Revokes", bad, resealed(good[2*256:], func(b []byte) { copy(b, good[:16]); clear(b[16:252]) }))
	wantEnd(t, "59 Revokes", bad, resealed(good, func(b []byte) { b[18] = 57 }))
	d := headed(t, bad, 32, 0, false) // and what was resealed without a change is in the chain
	lay(t, d, bad, 0, resealed(good, number(2, 39)))
	x.Revokes = []int{39}
	wantChain(t, "a resealed record", d, bad, []api.Txn{x})
}

// A record is whole, and has the right Seq, but one of its blocks, Write's or Revoke's, is the area's or none of the disk's.
func TestBlocksOfTheAreaAndBehindTheDisk(t *testing.T) {
	for _, a := range []span{{40, 6, 20}, {40, 0, 20}, {40, 20, 20}, {30, 5, 20}} {
		for _, block := range []int{-1, 0, 4, 5, 6, 19, 20, 24, 25, 26, 29, 30, 39, 40, 41, 1023, 1024, 1<<20 - 1} {
			if block < 0 || a.outside(block) {
				continue
			}
			free := a.free()
			for _, x := range []api.Txn{
				writing(to(block, 1)),
				revoking(block),
				writing(to(free[0], 1), to(block, 1)),
				writing(to(block, 1), to(free[0], 1)),
				{Writes: []api.Write{to(free[0], 1)}, Revokes: []int{free[1], block}},
				{Writes: []api.Write{to(block, 1)}, Revokes: []int{free[0]}},
			} {
				x.Seq = 32
				wantEnd(t, "a block that may not be written", a, encoded(t, x))
			}
		}
		for _, block := range a.free() { // each other one may
			d := headed(t, a, 1, 0, false)
			want, _ := layAll(t, d, a, 1, 0, writing(to(block, 1)), revoking(block), writing(to(block, 3)))
			wantChain(t, "a block that may be written", d, a, want)
			wantRecover(t, "a block that may be written", d, a, 3)
			wantRead(t, d, block, filled(3))
		}
	}
}

func TestOtherSeqs(t *testing.T) {
	for _, seq := range []uint64{0, 1, 29, 30, 31, 33, 34, 52, 32 + 256, 32 + 1<<32, 32 + 1<<63, 1<<64 - 32, 1<<64 - 1} {
		x := bad.some(2, 1, 5)
		x.Seq = seq
		wantEnd(t, "a record with another Seq", bad, encoded(t, x))
	}
	a := bad
	for _, seq := range []uint64{0, 1, 2, 4, 5} { // the first one has it already
		d := headed(t, a, 3, 18, false)
		layAll(t, d, a, seq, 18, a.some(1, 0, 1), a.some(1, 0, 2))
		wantChain(t, "a first record with another Seq", d, a, nil)
		wantRecover(t, "a first record with another Seq", d, a, 0)
		wantRead(t, d, 6, plainHead(3+20, 18))
	}
	d := headed(t, a, 3, 18, false) // records stand in the ring, but not at the head's place
	layAll(t, d, a, 3, 0, a.some(1, 0, 1))
	wantChain(t, "a record in another place", d, a, nil)
	d = headed(t, a, 3, 18, false) // a place is left free between
	first, behind := layAll(t, d, a, 3, 18, a.some(1, 0, 1))
	layAll(t, d, a, 4, behind+1, a.some(1, 0, 2))
	wantChain(t, "a place between", d, a, first)
}

// The Seqs' end: behind 2^64 - 1 comes 0.
func TestTheGreatestSeqs(t *testing.T) {
	a := bad
	for back := range uint64(25) {
		seq := math.MaxUint64 - back
		d := headed(t, a, seq, 11, false)
		want, behind := layAll(t, d, a, seq, 11, writing(to(1, 1)), writing(to(2, 2), to(3, 2)), revoking(39), writing(to(1, 4)))
		wantChain(t, "near the greatest Seq", d, a, want)
		ops := append(home(want), flush, op{a.placed(behind), make([]byte, 256)}, op{6, plainHead(seq+24, uint32(behind))}, flush)
		wantOps(t, "near the greatest Seq", d, func(d *disk.Disk) { wantRecover(t, "near the greatest Seq", d, a, 4) }, ops)
		wantRecover(t, "near the greatest Seq", d, a, 4)
		wantRead(t, d, 1, filled(4))
		wantChain(t, "behind Recover", d, a, nil)
		live := appended(t, opened(t, d, a), writing(to(1, 5)), writing(to(1, 6)))
		if live[0].Seq != seq+24 {
			t.Errorf("Seq %d behind Recover, want %d", live[0].Seq, seq+24)
		}
		wantChain(t, "records behind Recover", d, a, live)
	}
}

// Which Seq is greater is asked of them as numbers, as on the log's running side: 2^64 - 1 is greater than the 0 that comes behind it.
func TestRevokesRoundTheGreatestSeq(t *testing.T) {
	a := bad
	d := formatted(t, a)
	play(t, d, op{6, plainHead(math.MaxUint64-1, 0)}, flush)
	l := opened(t, d, a)
	appended(t, l, writing(to(1, 1), to(4, 1)), api.Txn{Writes: []api.Write{to(2, 2)}, Revokes: []int{3, 4}}, api.Txn{Writes: []api.Write{to(3, 3)}, Revokes: []int{1, 2, 4}})
	one := d.Copy()
	wantRecover(t, "round the greatest Seq", one, a, 3)
	l.Home()
	for _, block := range a.free() {
		b, _ := d.Read(block)
		wantRead(t, one, block, b)
	}
	wantRead(t, one, 1, filled(1))
	wantRead(t, one, 2, filled(2))
	wantRead(t, one, 3, make([]byte, 256))
	wantRead(t, one, 4, make([]byte, 256))
}

// P5.1: what Recover writes, in which order.

// A life is a chain's records, and what of them goes home, in order.
type life struct {
	what    string
	records []api.Txn
	home    []op
}

func lives() []life {
	w := func(l ...api.Write) []api.Write { return l }
	return []life{
		{"one Write", []api.Txn{{Writes: w(to(1, 1))}}, []op{{1, filled(1)}}},
		{"Writes in their order", []api.Txn{{Writes: w(to(29, 1), to(3, 2), to(28, 3))}}, []op{{29, filled(1)}, {3, filled(2)}, {28, filled(3)}}},
		{"records in their order", []api.Txn{{Writes: w(to(29, 1), to(3, 2))}, {Writes: w(to(28, 3), to(2, 4))}}, []op{{29, filled(1)}, {3, filled(2)}, {28, filled(3)}, {2, filled(4)}}},
		{"a block written twice", []api.Txn{{Writes: w(to(1, 1), to(2, 2))}, {Writes: w(to(2, 3), to(1, 4))}}, []op{{1, filled(1)}, {2, filled(2)}, {2, filled(3)}, {1, filled(4)}}},
		{"a block written thrice, the same at last", []api.Txn{{Writes: w(to(1, 1))}, {Writes: w(to(1, 2))}, {Writes: w(to(1, 1))}}, []op{{1, filled(1)}, {1, filled(2)}, {1, filled(1)}}},
		{"Revokes alone", []api.Txn{{Revokes: []int{1, 2}}}, nil},
		{"revoked by a later record", []api.Txn{{Writes: w(to(1, 1), to(2, 2))}, {Revokes: []int{1}}}, []op{{2, filled(2)}}},
		{"revoked by a much later record", []api.Txn{{Writes: w(to(1, 1), to(2, 2))}, {Writes: w(to(3, 3))}, {Writes: w(to(4, 4))}, {Writes: w(to(5, 5)), Revokes: []int{2, 27, 4}}}, []op{{1, filled(1)}, {3, filled(3)}, {5, filled(5)}}},
		{"all revoked", []api.Txn{{Writes: w(to(1, 1), to(2, 2))}, {Revokes: []int{2, 1}}}, nil},
		{"a Revoke of another block of the same record", []api.Txn{{Writes: w(to(1, 1)), Revokes: []int{2}}}, []op{{1, filled(1)}}},
		{"revoked by an earlier record", []api.Txn{{Revokes: []int{1}}, {Writes: w(to(1, 1))}}, []op{{1, filled(1)}}},
		{"written, revoked, and written again", []api.Txn{{Writes: w(to(1, 1))}, {Revokes: []int{1}}, {Writes: w(to(1, 3))}}, []op{{1, filled(3)}}},
		{"written, written, revoked, written, written", []api.Txn{{Writes: w(to(1, 1))}, {Writes: w(to(1, 2))}, {Revokes: []int{1}}, {Writes: w(to(1, 4))}, {Writes: w(to(1, 5))}}, []op{{1, filled(4)}, {1, filled(5)}}},
		{"revoked, written, revoked", []api.Txn{{Revokes: []int{1}}, {Writes: w(to(1, 1), to(2, 2))}, {Revokes: []int{1}}}, []op{{2, filled(2)}}},
		{"revoked twice, written between", []api.Txn{{Writes: w(to(1, 1))}, {Revokes: []int{1}}, {Writes: w(to(1, 3))}, {Revokes: []int{1}}}, nil},
		{"revoked twice", []api.Txn{{Writes: w(to(1, 1))}, {Revokes: []int{1}}, {Revokes: []int{1}}, {Writes: w(to(1, 4))}}, []op{{1, filled(4)}}},
		{"block 0", []api.Txn{{Writes: w(to(0, 1))}, {Revokes: []int{0}}, {Writes: w(to(31, 2))}}, []op{{31, filled(2)}}},
		{"data like the log's own", []api.Txn{{Writes: w(api.Write{Block: 1, Data: plainHead(1, 0)})}}, []op{{1, plainHead(1, 0)}}},
	}
}

func TestRecoverWrites(t *testing.T) {
	a := span{32, 6, 20}
	for _, c := range lives() {
		for _, seq := range []uint64{0, 1, 1 << 40} {
			for _, others := range []bool{false, true} {
				d := headed(t, a, seq, 15, true)
				want, behind := layAll(t, d, a, seq, 15, c.records...)
				if others {
					play(t, d, op{30, filled(8)}, op{1, filled(9)}) // pending
				} else {
					d.Flush()
				}
				wantChain(t, c.what, d, a, want)
				head := op{6, plainHead(seq+uint64(len(want))+20, uint32(behind))}
				ops := append(append([]op{}, c.home...), flush, op{a.placed(behind), make([]byte, 256)}, head, flush)
				wantOps(t, c.what, d, func(d *disk.Disk) { wantRecover(t, c.what, d, a, len(want)) }, ops)
			}
		}
	}
}

// What Recover brings home is what Home would have.
func TestRecoverIsHome(t *testing.T) {
	a := span{32, 6, 20}
	for _, c := range lives() {
		d := headed(t, a, 1, 15, true)
		l := opened(t, d, a)
		appended(t, l, c.records...)
		one := d.Copy()
		l.Home()
		wantRecover(t, c.what, one, a, len(c.records))
		if !bytes.Equal(outside(one, a), outside(d, a)) {
			t.Errorf("%s: Recover brings other bytes home than Home", c.what)
		}
		if one.Pending() != 0 {
			t.Errorf("%s: Pending %d behind Recover", c.what, one.Pending())
		}
		_, place := l.Next()
		if seq, at := opened(t, one, a).Next(); seq != uint64(1+len(c.records)+20) || at != place {
			t.Errorf("%s: a log at Seq %d, place %d behind Recover", c.what, seq, at)
		}
	}
}

// Other areas of the disk, and records in them, are blocks as any.
func TestTwoAreasOfOneDisk(t *testing.T) {
	a, b := span{48, 0, 16}, span{48, 20, 16}
	d := formatted(t, a)
	if err := log.Format(d, b.start, b.length); err != api.OK {
		t.Fatal(err)
	}
	one := appended(t, opened(t, d, a), writing(to(40, 1), to(41, 1)), revoking(40))
	two := appended(t, opened(t, d, b), writing(to(40, 2)), writing(to(42, 2)))
	wantChain(t, "the one", d, a, one)
	wantChain(t, "the other", d, b, two)
	wantRecover(t, "the other", d, b, 2)
	wantChain(t, "the one", d, a, one)
	wantRecover(t, "the one", d, a, 2)
	wantRead(t, d, 40, filled(2))
	wantRead(t, d, 41, filled(1))
	wantRead(t, d, 42, filled(2))
	part := appended(t, opened(t, d, a), writing(api.Write{Block: b.start, Data: plainHead(7, 3)})) // the one writes the other's head
	wantChain(t, "a Write to the other's head", d, a, part)
	wantRecover(t, "a Write to the other's head", d, a, 1)
	if seq, place := opened(t, d, b).Next(); seq != 7 || place != 3 {
		t.Errorf("the other's log at Seq %d, place %d, want 7, 3", seq, place)
	}
}

// P1: answers are new memory, equal disks answer the same, and a call keeps nothing.

func TestAnswersAreNewMemory(t *testing.T) {
	a := bad
	d := headed(t, a, 1, 3, false)
	want, _ := layAll(t, d, a, 1, 3, a.some(2, 2, 1), a.some(3, 1, 4))
	ahead := d.Copy()
	one, two := scanned(t, "one", d, a), scanned(t, "two", d, a)
	for i := range one {
		for k := range one[i].Writes {
			clear(one[i].Writes[k].Data)
			_ = append(one[i].Writes[k].Data, 1, 2, 3)
			one[i].Writes[k].Block = 0
		}
		_ = append(one[i].Writes, to(0, 9))
		_ = append(one[i].Revokes, 1, 2, 3)
		clear(one[i].Revokes)
	}
	clear(one)
	if !sameRecords(two, want) {
		t.Error("two answers share memory")
	}
	wantDisk(t, "an answer was written to", d, ahead)
	wantChain(t, "an answer was written to", d, a, want)
}

// No part of an answer shares the room behind it with another one.
func TestPartsOfAnAnswerShareNothing(t *testing.T) {
	a := bad
	d := headed(t, a, 1, 3, false)
	want, _ := layAll(t, d, a, 1, 3, a.some(2, 2, 1), a.some(3, 1, 4))
	l := scanned(t, "an answer", d, a)
	for i := range l {
		for k := range l[i].Writes {
			fill(l[i].Writes[k].Data)
		}
	}
	if !sameRecords(l, want) {
		t.Error("data of an answer shares memory with others of it")
	}
}

// fill: writes into the spare room behind b.
func fill(b []byte) {
	spare := b[len(b):cap(b)]
	for i := range spare {
		spare[i] = 0xaa
	}
}

func TestEqualDisksAnswerTheSame(t *testing.T) {
	a := span{32, 6, 20}
	for _, c := range lives() {
		d := headed(t, a, 1, 15, true)
		want, _ := layAll(t, d, a, 1, 15, c.records...)
		first := d.Copy()
		Recover(first, a.start, a.length)
		for range 20 {
			wantChain(t, c.what, d, a, want)
			again := d.Copy()
			wantRecover(t, c.what, again, a, len(want))
			wantDisk(t, c.what, again, first)
		}
	}
}

// P5.1: any bytes.

func TestAnyBytes(t *testing.T) {
	for seed := range uint32(60) {
		a := span{40, int(seed % 20), 8 + int(seed%13)}
		d, err := disk.Load(noise(256*a.blocks, seed))
		if err != api.OK {
			t.Fatal(err)
		}
		wantRefused(t, "noise", d, a, api.ErrClean)
		play(t, d, op{a.start, plainHead(uint64(seed), seed%uint32(a.ring()))})
		wantChain(t, "a head and noise", d, a, nil)
		wantRecover(t, "a head and noise", d, a, 0)
		wantChain(t, "behind Recover", d, a, nil)
	}
	for _, c := range []byte{0, 1, 0x55, 0x80, 0xff} {
		d, _ := disk.Load(bytes.Repeat([]byte{c}, 256*40))
		wantRefused(t, "one byte over and over", d, bad, api.ErrClean)
		play(t, d, op{bad.start, plainHead(3, 4)})
		wantChain(t, "a head, and one byte over and over", d, bad, nil)
		wantRecover(t, "a head, and one byte over and over", d, bad, 0)
	}
}

// Descriptors that promise as much as their counts can hold, in rings of all lengths.
func TestGreatCounts(t *testing.T) {
	for length := 8; length <= 70; length++ {
		a := span{80, 0, length}
		for _, counts := range []uint32{1, 5, 6, 7, 57, 58, 59, 0xffff, 1 << 16, 58 << 16, 59 << 16, 1<<16 | 57, 1<<16 | 58, 0xffffffff} {
			b := encoded(t, api.Txn{Seq: 9, Revokes: []int{79}})
			b = resealed(b, func(b []byte) { binary.LittleEndian.PutUint32(b[16:], counts) })
			d := headed(t, a, 9, length-2, false)
			lay(t, d, a, length-2, b)
			image := d.Image()
			want, _ := plainChain(image, a, 9, length-2)
			wantChain(t, "great counts", d, a, want)
			if x, _, ok := record.Decode(b, 9); ok != (counts == 1<<16) {
				t.Errorf("counts %x: Decode %v, %v", counts, x, ok)
			}
		}
	}
}
