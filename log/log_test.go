package log

import (
	"bytes"
	"encoding/binary"
	"math"
	"testing"

	"undercroft/api"
	"undercroft/disk"
	"undercroft/record"
)

// P4.1: which areas may be.

func TestExample(t *testing.T) {
	d := formatted(t, 16, 0, 8)
	l := opened(t, d, 0, 8)
	wantState(t, "a new log", l, 7, 1, 0)
	wantAppend(t, l, []api.Write{to(8, 1)}, nil, 1)
	wantState(t, "one record", l, 4, 2, 3)
	wantAppend(t, l, []api.Write{to(9, 2)}, nil, 2)
	wantState(t, "two records", l, 1, 3, 6)
	wantRefused(t, "a third", d, l, []api.Write{to(10, 3)}, nil, api.ErrSpace)
	wantRefused(t, "a Write to block 7", d, l, []api.Write{to(7, 3)}, nil, api.ErrLog)
	l.Home()
	wantState(t, "behind Home", l, 7, 3, 6)
	wantRead(t, d, 8, filled(1))
	wantRead(t, d, 9, filled(2))
	wantRead(t, d, 10, make([]byte, 256))
	if err := Format(d, 0, 7); err != api.ErrArg {
		t.Errorf("Format of length 7: error %d, want ErrArg", err)
	}
}

type span struct{ blocks, start, length int }

// areas: areas that may be.
func areas() []span {
	return []span{{8, 0, 8}, {9, 1, 8}, {9, 0, 8}, {9, 0, 9}, {16, 0, 8}, {16, 1, 8}, {16, 7, 9}, {16, 8, 8}, {128, 19, 36}, {1024, 0, 8}, {1024, 0, 1024}, {1024, 1, 1023}, {1024, 1016, 8}, {1024, 131, 64}}
}

func TestAreasThatMayBe(t *testing.T) {
	for _, a := range areas() {
		d := newDisk(t, a.blocks)
		if l, err := Open(d, a.start, a.length); l != nil || err != api.ErrClean {
			t.Errorf("%v: Open ahead of Format: %v, error %d, want ErrClean", a, l, err)
		}
		if err := Format(d, a.start, a.length); err != api.OK {
			t.Errorf("%v: Format: error %d", a, err)
			continue
		}
		wantState(t, "an empty log", opened(t, d, a.start, a.length), a.length-1, 1, 0)
	}
}

func TestAreasThatMayNotBe(t *testing.T) {
	l := []span{
		{16, 0, 7}, {16, 3, 7}, {16, 0, 0}, {16, 0, 1}, {16, 0, -1}, {16, 0, -8}, {16, 16, -8}, {16, 0, math.MinInt}, {16, 0, math.MaxInt},
		{1024, 0, 7}, {1024, 0, 1025}, {1024, 0, 2048}, {1024, 0, 1 << 32}, {1024, 0, 1<<32 + 8}, {1024, 0, math.MaxInt},
		{16, -1, 8}, {16, -8, 8}, {16, -8, 16}, {16, -1, 17}, {16, math.MinInt, 8}, {16, math.MinInt, math.MinInt}, {16, math.MinInt, math.MaxInt},
		{16, 9, 8}, {16, 8, 9}, {16, 1, 16}, {16, 0, 17}, {16, 15, 8}, {16, 16, 8}, {16, 17, 8}, {16, 1 << 32, 8}, {16, math.MaxInt, 8}, {16, math.MaxInt - 7, 8}, {16, math.MaxInt - 8, 8}, {16, math.MaxInt, math.MaxInt},
		{1024, 1017, 8}, {1024, 1, 1024}, {1024, -1, 1024}, {1024, -1, 1025}, {7, 0, 8}, {7, 0, 7}, {1, 0, 8}, {1, 0, 1}, {16, 1<<63 - 1, 1 << 62},
	}
	for _, a := range l {
		d := newDisk(t, a.blocks)
		for i := range min(a.blocks, 20) { // a head that may be at each block: what is refused is the area
			play(t, d, []op{{i, plainHead(1, 0)}})
		}
		ahead := d.Copy()
		if err := Format(d, a.start, a.length); err != api.ErrArg {
			t.Errorf("%v: Format: error %d, want ErrArg", a, err)
		}
		if l, err := Open(d, a.start, a.length); l != nil || err != api.ErrArg {
			t.Errorf("%v: Open: %v, error %d, want ErrArg", a, l, err)
		}
		wantDisk(t, "an area that may not be", d, ahead)
		if l, err := Open(newDisk(t, a.blocks), a.start, a.length); l != nil || err != api.ErrArg { // ahead of ErrClean
			t.Errorf("%v: Open without a head: %v, error %d, want ErrArg", a, l, err)
		}
	}
}

func TestNoDisk(t *testing.T) {
	for _, d := range []*disk.Disk{nil, {}} {
		for _, a := range []span{{0, 0, 8}, {0, 0, 7}, {0, 0, 0}, {0, -1, 8}, {0, -8, 8}, {0, math.MinInt, 8}, {0, math.MaxInt, math.MaxInt}, {0, 0, 1024}} {
			if err := Format(d, a.start, a.length); err != api.ErrArg {
				t.Errorf("%v: Format: error %d, want ErrArg", a, err)
			}
			if l, err := Open(d, a.start, a.length); l != nil || err != api.ErrArg {
				t.Errorf("%v: Open: %v, error %d, want ErrArg", a, l, err)
			}
		}
	}
}

// P4.1: Format and heads.

func TestFormatWrites(t *testing.T) {
	for _, a := range []span{{8, 0, 8}, {9, 1, 8}, {16, 8, 8}, {16, 3, 9}} {
		begin := func() (*disk.Disk, *Log) {
			d, err := disk.Load(noise(256*a.blocks, 5))
			if err != api.OK {
				t.Fatal(err)
			}
			play(t, d, []op{{0, filled(1)}, {a.start, filled(2)}, {a.blocks - 1, filled(3)}}) // of others, and pending
			return d, nil
		}
		call := func(d *disk.Disk, _ *Log) {
			if err := Format(d, a.start, a.length); err != api.OK {
				t.Errorf("%v: error %d", a, err)
			}
		}
		wantOps(t, "Format", begin, call, []op{{a.start, plainHead(1, 0)}, flush})
	}
}

func TestFormatTellsTheseBytes(t *testing.T) {
	d := formatted(t, 16, 4, 8)
	want := make([]byte, 256)
	copy(want, "ULOG\x03\x00\x00\x00\x01\x00\x00\x00\x00\x00\x00\x00\x00\x00\x00\x00\x86\xf9\x29\xb0")
	wantRead(t, d, 4, want)
	if d.Pending() != 0 {
		t.Errorf("Pending %d behind Format", d.Pending())
	}
}

func TestOpenAtTheHead(t *testing.T) {
	for _, a := range []span{{16, 0, 8}, {16, 5, 11}, {128, 19, 36}, {1024, 0, 1024}} {
		for _, seq := range []uint64{0, 1, 2, 255, 256, 1 << 31, 1 << 32, 0x0807060504030201, 1 << 63, math.MaxUint64} {
			for _, place := range []int{0, 1, 3, a.length - 3, a.length - 2} {
				d, l := at(t, a.blocks, a.start, a.length, seq, place)
				wantState(t, "a log at a head", l, a.length-1, seq, place)
				l.Home() // no record is live
				wantState(t, "a log at a head, behind Home", l, a.length-1, seq, place)
				wantRead(t, d, a.start, plainHead(seq, uint32(place)))
			}
			for _, place := range []uint32{uint32(a.length - 1), uint32(a.length), 1 << 10, 1 << 16, 1<<31 - 1, 1 << 31, 1<<32 - 1} {
				d := newDisk(t, a.blocks)
				play(t, d, []op{{a.start, plainHead(seq, place)}, flush})
				if l, err := Open(d, a.start, a.length); l != nil || err != api.ErrClean {
					t.Errorf("%v: Open at place %d: %v, error %d, want ErrClean", a, place, l, err)
				}
			}
		}
	}
}

func TestOpenWritesNothing(t *testing.T) {
	begin := func() (*disk.Disk, *Log) {
		d := formatted(t, 16, 2, 8)
		play(t, d, []op{{2, plainHead(9, 3)}, {0, filled(1)}})
		return d, nil
	}
	wantOps(t, "Open", begin, func(d *disk.Disk, _ *Log) { opened(t, d, 2, 8) }, nil)
	none := func(d *disk.Disk, _ *Log) {
		if l, err := Open(d, 3, 8); l != nil || err != api.ErrClean {
			t.Errorf("Open where no head is: %v, error %d, want ErrClean", l, err)
		}
	}
	wantOps(t, "Open where no head is", begin, none, nil)
}

func TestOpenReadsWhatIsRead(t *testing.T) {
	d := formatted(t, 16, 2, 8)
	play(t, d, []op{{2, plainHead(9, 3)}})
	wantState(t, "a pending head", opened(t, d, 2, 8), 7, 9, 3)
	play(t, d, []op{{2, filled(0)}})
	if l, err := Open(d, 2, 8); l != nil || err != api.ErrClean {
		t.Errorf("a head that was written over: %v, error %d, want ErrClean", l, err)
	}
	d.Fuse(0)
	play(t, d, []op{{2, plainHead(11, 6)}})
	wantState(t, "a head that is a ghost", opened(t, d, 2, 8), 7, 11, 6)
	d.Crash(nil)
	wantState(t, "the stable head", opened(t, d, 2, 8), 7, 1, 0)
}

// wantNoHead: Open finds no head where b is.
func wantNoHead(t *testing.T, what string, b []byte) {
	t.Helper()
	d := newDisk(t, 16)
	play(t, d, []op{{3, b}})
	ahead := d.Copy()
	if l, err := Open(d, 3, 10); l != nil || err != api.ErrClean {
		t.Errorf("%s: %v, error %d, want ErrClean", what, l, err)
	}
	wantDisk(t, what, d, ahead)
}

func TestHeadsThatMayNotBe(t *testing.T) {
	for _, good := range [][]byte{plainHead(1, 0), plainHead(math.MaxUint64, 8), plainHead(0x0807060504030201, 4)} {
		for bit := range 8 * 256 {
			b := bytes.Clone(good)
			b[bit/8] ^= 1 << (bit % 8)
			wantNoHead(t, "a bit turned", b)
		}
		for _, mark := range []string{"\x00\x00\x00\x00", "ulog", "ULOH", "VLOG", "UCFT", "GOLU", "ULO", "\x03\x00\x00\x00ULOG"} {
			b := bytes.Clone(good)
			copy(b, mark)
			if !bytes.Equal(b, good) {
				wantNoHead(t, "another mark", sealed(b[:20]))
			}
		}
		for kind := range 256 {
			if kind != 3 {
				b := bytes.Clone(good)
				b[4] = byte(kind)
				wantNoHead(t, "another kind", sealed(b[:20]))
			}
		}
		for i := 5; i < 8; i++ {
			for _, v := range []byte{1, 0x80, 0xff} {
				b := bytes.Clone(good)
				b[i] = v
				wantNoHead(t, "an unused byte behind the kind", sealed(b[:20]))
			}
		}
		for i := 24; i < 256; i++ {
			for _, v := range []byte{1, 0x80, 0xff} {
				b := bytes.Clone(good)
				b[i] = v
				wantNoHead(t, "an unused byte behind the sum", b)
			}
		}
	}
}

func TestOtherBlocksAreNoHeads(t *testing.T) {
	wantNoHead(t, "noughts", make([]byte, 256))
	wantNoHead(t, "ones", filled(255))
	wantNoHead(t, "noise", noise(256, 1))
	wantNoHead(t, "a sum of noughts", sealed(nil))
	blocks, err := record.Encode(api.Txn{Seq: 1, Revokes: []int{1}})
	if err != api.OK {
		t.Fatal(err)
	}
	wantNoHead(t, "a descriptor", blocks[:256])
	wantNoHead(t, "a commit", blocks[256:])
	b := plainHead(1, 0)
	copy(b[20:24], "\x00\x00\x00\x00")
	binary.LittleEndian.PutUint32(b[252:], binary.LittleEndian.Uint32(plainHead(1, 0)[20:]))
	wantNoHead(t, "a sum at the block's end", b)
}

// P4.1: what Append writes, and where.

func TestAppendWrites(t *testing.T) {
	for _, start := range []int{0, 4, 20} {
		for place := range 11 {
			for _, c := range [][2]int{{1, 0}, {0, 1}, {2, 1}, {0, 8}, {4, 4}, {8, 0}, {9, 0}, {9, 5}} {
				p := &plain{size: 32, start: start, length: 12, seq: 70, place: place}
				var writes []api.Write
				for _, block := range outside(p)[:c[0]] {
					writes = append(writes, someWrites(block, 1, uint32(block%4))...)
				}
				revokes := outside(p)[c[0] : c[0]+c[1]]
				begin := func() (*disk.Disk, *Log) {
					d, l := at(t, 32, start, 12, 70, place)
					play(t, d, []op{{outside(p)[0], filled(8)}, {start + 3, filled(9)}}) // of others, and pending
					return d, l
				}
				_, _, ops := p.append(writes, revokes)
				if len(ops) != c[0]+2 {
					t.Fatalf("%d operations: the test asks for a record that may not be", len(ops))
				}
				call := func(_ *disk.Disk, l *Log) { wantAppend(t, l, writes, revokes, 70) }
				wantOps(t, "Append", begin, call, ops)
			}
		}
	}
}

func TestAppendGoesRoundTheRing(t *testing.T) {
	d, l := at(t, 20, 2, 8, 5, 6) // places 0 to 6 are blocks 3 to 9
	w := []api.Write{to(12, 1), to(13, 2)}
	wantAppend(t, l, w, []int{14}, 5)
	b, err := record.Encode(api.Txn{Seq: 5, Writes: w, Revokes: []int{14}})
	if err != api.OK {
		t.Fatal(err)
	}
	for k, block := range []int{9, 3, 4, 5} {
		wantRead(t, d, block, b[256*k:256*k+256])
	}
	for _, block := range []int{0, 1, 6, 7, 8, 10, 12, 13} {
		wantRead(t, d, block, make([]byte, 256))
	}
	wantRead(t, d, 2, plainHead(5, 6))
	wantState(t, "round the ring", l, 3, 6, 3)
	wantAppend(t, l, []api.Write{to(12, 3)}, nil, 6)
	wantState(t, "the ring full", l, 0, 7, 6)
	l.Home()
	wantRead(t, d, 12, filled(3))
	wantRead(t, d, 13, filled(2))
	wantRead(t, d, 2, plainHead(7, 6))
	wantState(t, "behind Home", l, 7, 7, 6)
}

func TestPlacesBehindTheLastOne(t *testing.T) {
	for place := range 9 {
		for n := range 8 {
			_, l := at(t, 32, 3, 10, 1, place)
			wantAppend(t, l, someWrites(13, n, 1), []int{30}, 1)
			wantState(t, "one record", l, 9-2-n, 2, (place+n+2)%9)
		}
	}
}

// Records that fill the ring just up, one block short of it, and one over.
func TestRecordsThatFillTheRing(t *testing.T) {
	for place := range 7 {
		d, l := at(t, 32, 4, 8, 1, place)
		wantRefused(t, "one over", d, l, someWrites(12, 6, 1), nil, api.ErrSpace)
		wantRefused(t, "many over", d, l, someWrites(12, 20, 1), nil, api.ErrSpace)
		wantAppend(t, l, someWrites(12, 5, 1), nil, 1)
		wantState(t, "just up", l, 0, 2, place)
		wantRefused(t, "no room at all", d, l, nil, []int{0}, api.ErrSpace)
		l.Home()
		wantState(t, "behind Home", l, 7, 2, place)
		wantAppend(t, l, someWrites(12, 4, 2), nil, 2)
		wantState(t, "one block short", l, 1, 3, (place+6)%7)
		wantRefused(t, "room for one block", d, l, nil, []int{0}, api.ErrSpace)
		l.Home()
		wantAppend(t, l, nil, []int{0}, 3)
		wantAppend(t, l, []api.Write{to(1, 1)}, []int{2}, 4)
		wantRefused(t, "the third is one over", d, l, []api.Write{to(3, 1)}, nil, api.ErrSpace)
		wantAppend(t, l, nil, []int{1, 3, 31}, 5)
		wantState(t, "three records just up", l, 0, 6, (place+6)%7)
	}
}

func TestRecordsOfManySlots(t *testing.T) {
	d, l := at(t, 200, 0, 62, 1, 50) // 61 places
	wantAppend(t, l, someWrites(62, 58, 1), nil, 1)
	wantState(t, "58 Writes", l, 1, 2, 49)
	wantRefused(t, "58 more", d, l, someWrites(62, 58, 2), nil, api.ErrSpace)
	wantRefused(t, "59", d, l, someWrites(62, 59, 2), nil, api.ErrLog)
	l.Home()
	for _, w := range someWrites(62, 58, 1) {
		wantRead(t, d, w.Block, w.Data)
	}
	d, l = at(t, 200, 0, 61, 1, 0) // 60 places
	wantAppend(t, l, someWrites(100, 58, 1), nil, 1)
	wantState(t, "58 Writes just up", l, 0, 2, 0)
	d, l = at(t, 200, 0, 60, 1, 0) // 59 places
	wantRefused(t, "58 Writes one over", d, l, someWrites(100, 58, 1), nil, api.ErrSpace)
	wantAppend(t, l, someWrites(100, 57, 1), []int{99}, 1)
	wantState(t, "57 Writes and a Revoke", l, 0, 2, 0)
}

func TestTheGreatestArea(t *testing.T) {
	d, l := at(t, 1024, 0, 1024, 1, 1022)
	wantRefused(t, "no block is outside", d, l, []api.Write{to(1023, 1)}, nil, api.ErrLog)
	d, l = at(t, 1024, 1, 1023, 1, 1021)
	for seq := range uint64(340) { // 3 of 1022 places each
		wantAppend(t, l, []api.Write{to(0, byte(seq))}, nil, seq+1)
	}
	wantState(t, "340 records", l, 2, 341, (1021+1020)%1022)
	wantRefused(t, "one over", d, l, []api.Write{to(0, 1)}, nil, api.ErrSpace)
	wantAppend(t, l, nil, []int{0}, 341)
	wantState(t, "341 records", l, 0, 342, 1021)
	l.Home()
	wantRead(t, d, 0, make([]byte, 256))
	wantRead(t, d, 1, plainHead(342, 1021))
}

// P4.1: records that may not be.

// refusals: Writes and Revokes of which layer 3, or the area of 10 blocks from 5 on of a disk of 32, allows no record.
func refusals() []api.Txn {
	var l []api.Txn
	for _, block := range []int{5, 6, 9, 13, 14, -1, -2, -5, 32, 33, 1023, 1024, 1<<20 - 1, 1 << 20, 1<<31 + 4, 1 << 32, 1<<32 + 4, -1 << 32, math.MaxInt, math.MinInt} {
		l = append(l,
			api.Txn{Writes: []api.Write{to(block, 1)}},
			api.Txn{Revokes: []int{block}},
			api.Txn{Writes: []api.Write{to(3, 1), to(block, 2), to(4, 3)}, Revokes: []int{20}},
			api.Txn{Writes: []api.Write{to(3, 1), to(4, 3)}, Revokes: []int{20, 21, block}},
			api.Txn{Writes: []api.Write{to(block, 1)}, Revokes: []int{block}},
		)
	}
	for _, n := range []int{0, 1, 64, 255, 257, 512} {
		l = append(l, api.Txn{Writes: []api.Write{{Block: 3, Data: noise(n, 1)}}})
		l = append(l, api.Txn{Writes: []api.Write{to(4, 1), {Block: 3, Data: noise(n, 1)}}, Revokes: []int{20}})
	}
	return append(l,
		api.Txn{},
		api.Txn{Writes: []api.Write{}, Revokes: []int{}},
		api.Txn{Writes: []api.Write{to(3, 1), to(3, 2)}},
		api.Txn{Writes: []api.Write{to(3, 1), to(4, 1), to(3, 1)}},
		api.Txn{Revokes: []int{3, 3}},
		api.Txn{Writes: []api.Write{to(3, 1)}, Revokes: []int{3}},
		api.Txn{Writes: make([]api.Write, 59)},
		api.Txn{Revokes: make([]int, 59)},
		api.Txn{Revokes: make([]int, 1<<16)},
	)
}

func TestRecordsThatMayNotBe(t *testing.T) {
	for i, x := range refusals() {
		d, l := at(t, 32, 5, 10, 1, 3)
		wantRefused(t, "an empty log", d, l, x.Writes, x.Revokes, api.ErrLog)
		wantAppend(t, l, someWrites(15, 2, 1), []int{0}, 1)
		wantRefused(t, "a log with a record", d, l, x.Writes, x.Revokes, api.ErrLog)
		wantAppend(t, l, someWrites(15, 3, 2), nil, 2)
		wantRefused(t, "a full log: ErrLog comes ahead of ErrSpace", d, l, x.Writes, x.Revokes, api.ErrLog)
		if t.Failed() {
			t.Fatalf("refusal %d", i)
		}
		l.Home() // nothing of what was refused goes home, and nothing of it revokes
		for _, w := range someWrites(15, 3, 2) {
			wantRead(t, d, w.Block, w.Data)
		}
		wantRead(t, d, 3, make([]byte, 256))
		wantRead(t, d, 4, make([]byte, 256))
		wantState(t, "behind Home", l, 9, 3, 3)
	}
}

func TestErrLogAheadOfErrSpace(t *testing.T) {
	d, l := at(t, 64, 5, 10, 1, 3)
	for _, block := range []int{5, 14, -1, 64} {
		wantRefused(t, "too long, and a Write that may not be", d, l, append(someWrites(15, 20, 1), to(block, 1)), nil, api.ErrLog)
		wantRefused(t, "too long, and a Revoke that may not be", d, l, someWrites(15, 20, 1), []int{block}, api.ErrLog)
	}
	wantRefused(t, "too long, and a number twice", d, l, append(someWrites(15, 20, 1), to(15, 1)), nil, api.ErrLog)
	wantRefused(t, "too long alone", d, l, someWrites(15, 20, 1), nil, api.ErrSpace)
}

// Blocks just ahead of the area and just behind it, the disk's first and last one.
func TestRecordsOfBlocksBesideTheArea(t *testing.T) {
	for _, c := range []struct {
		a      span
		blocks []int
	}{
		{span{32, 5, 10}, []int{0, 4, 15, 31}},
		{span{32, 0, 10}, []int{10, 31}},
		{span{32, 22, 10}, []int{0, 21}},
		{span{32, 1, 30}, []int{0, 31}},
	} {
		for _, block := range c.blocks {
			d, l := at(t, c.a.blocks, c.a.start, c.a.length, 1, 0)
			wantAppend(t, l, []api.Write{to(block, 7)}, nil, 1)
			wantAppend(t, l, nil, []int{block}, 2)
			wantAppend(t, l, []api.Write{to(block, 9)}, nil, 3)
			l.Home()
			wantRead(t, d, block, filled(9))
		}
		for _, block := range []int{c.a.start, c.a.start + 1, c.a.start + c.a.length - 1, -1, c.a.blocks} {
			d, l := at(t, c.a.blocks, c.a.start, c.a.length, 1, 0)
			wantRefused(t, "a Write", d, l, []api.Write{to(block, 7)}, nil, api.ErrLog)
			wantRefused(t, "a Revoke", d, l, nil, []int{block}, api.ErrLog)
		}
	}
}

// P4.1: nil logs, and one that Open didn't make.

func TestNilLog(t *testing.T) {
	for _, l := range []*Log{nil, {}} {
		for _, x := range append(refusals(), api.Txn{Writes: []api.Write{to(3, 1)}}, api.Txn{Revokes: []int{3}}) {
			if seq, err := l.Append(x.Writes, x.Revokes); seq != 0 || err != api.ErrLog {
				t.Errorf("Append: Seq %d, error %d, want ErrLog", seq, err)
			}
		}
		l.Sync()
		l.Home()
		wantState(t, "no log", l, 0, 0, 0)
	}
}

// P4.1: the Seqs' end.

func TestTheGreatestSeq(t *testing.T) {
	d, l := at(t, 32, 5, 10, math.MaxUint64, 7)
	wantAppend(t, l, []api.Write{to(1, 1)}, nil, math.MaxUint64)
	wantState(t, "behind the greatest", l, 6, 0, 1)
	b, err := record.Encode(api.Txn{Seq: math.MaxUint64, Writes: []api.Write{to(1, 1)}})
	if err != api.OK {
		t.Fatal(err)
	}
	wantRead(t, d, 6+7, b[:256])
	wantAppend(t, l, []api.Write{to(2, 2)}, nil, 0)
	wantAppend(t, l, []api.Write{to(1, 3)}, nil, 1)
	l.Home()
	wantRead(t, d, 1, filled(3))
	wantRead(t, d, 2, filled(2))
	wantRead(t, d, 5, plainHead(2, 7))
	wantState(t, "behind Home", opened(t, d, 5, 10), 9, 2, 7)
}

// Which Seq is greater is asked of them as numbers: 2^64 - 1 is greater than the 0 that comes behind it.
func TestRevokesRoundTheGreatestSeq(t *testing.T) {
	d, l := at(t, 32, 5, 20, math.MaxUint64-1, 0)
	wantAppend(t, l, []api.Write{to(1, 1), to(4, 1)}, nil, math.MaxUint64-1)
	wantAppend(t, l, []api.Write{to(2, 2)}, []int{3, 4}, math.MaxUint64)
	wantAppend(t, l, []api.Write{to(3, 3)}, []int{1, 2, 4}, 0)
	l.Home()
	wantRead(t, d, 1, filled(1))
	wantRead(t, d, 2, filled(2))
	wantRead(t, d, 3, make([]byte, 256))
	wantRead(t, d, 4, make([]byte, 256))
}
