package log

import (
	"bytes"
	"testing"

	"undercroft/api"
	"undercroft/disk"
)

// P4.1: what Sync and Home do to the disk, in which order.

func TestSyncFlushes(t *testing.T) {
	empty := func() (*disk.Disk, *Log) { return at(t, 16, 0, 8, 1, 0) }
	full := func() (*disk.Disk, *Log) {
		d, l := at(t, 16, 0, 8, 1, 0)
		wantAppend(t, l, []api.Write{to(9, 1)}, nil, 1)
		play(t, d, []op{{10, filled(2)}})
		return d, l
	}
	sync := func(_ *disk.Disk, l *Log) { l.Sync() }
	wantOps(t, "Sync of an empty log", empty, sync, []op{flush})
	wantOps(t, "Sync of a log with a record", full, sync, []op{flush})
	twice := func(_ *disk.Disk, l *Log) {
		l.Sync()
		l.Sync()
	}
	wantOps(t, "Sync, twice", full, twice, []op{flush, flush})
	d, l := full()
	l.Sync()
	wantState(t, "behind Sync", l, 4, 2, 3)
	if d.Pending() != 0 {
		t.Errorf("Pending %d behind Sync", d.Pending())
	}
	l.Home() // the record is live as ahead
	wantRead(t, d, 9, filled(1))
}

func TestHomeOfNoRecord(t *testing.T) {
	home := func(_ *disk.Disk, l *Log) { l.Home() }
	empty := func() (*disk.Disk, *Log) {
		d, l := at(t, 16, 0, 8, 9, 5)
		play(t, d, []op{{10, filled(2)}})
		return d, l
	}
	wantOps(t, "an empty log", empty, home, nil)
	again := func() (*disk.Disk, *Log) {
		d, l := at(t, 16, 0, 8, 9, 5)
		wantAppend(t, l, []api.Write{to(9, 1)}, nil, 9)
		l.Home()
		play(t, d, []op{{9, filled(2)}, {0, filled(3)}})
		return d, l
	}
	wantOps(t, "Home again", again, home, nil)
	refused := func() (*disk.Disk, *Log) {
		d, l := at(t, 16, 0, 8, 9, 5)
		wantRefused(t, "in the area", d, l, []api.Write{to(3, 1)}, nil, api.ErrLog)
		wantRefused(t, "too long", d, l, someWrites(8, 6, 1), nil, api.ErrSpace)
		return d, l
	}
	wantOps(t, "records that were refused", refused, home, nil)
	reopened := func() (*disk.Disk, *Log) { // what another log appended isn't live in this one
		d, l := at(t, 16, 0, 8, 9, 5)
		wantAppend(t, l, []api.Write{to(9, 1)}, nil, 9)
		l.Sync()
		return d, opened(t, d, 0, 8)
	}
	wantOps(t, "a log that was opened again", reopened, home, nil)
}

// A life is the records that a log lives through, and what of them goes home, in order.
type life struct {
	what    string
	records []api.Txn
	home    []op
}

func lives() []life {
	w := func(l ...api.Write) []api.Write { return l }
	return []life{
		{"one Write", []api.Txn{{Writes: w(to(1, 1))}}, []op{{1, filled(1)}}},
		{"Writes in their order", []api.Txn{{Writes: w(to(25, 1), to(3, 2), to(24, 3))}}, []op{{25, filled(1)}, {3, filled(2)}, {24, filled(3)}}},
		{"records in their order", []api.Txn{{Writes: w(to(25, 1), to(3, 2))}, {Writes: w(to(24, 3), to(2, 4))}}, []op{{25, filled(1)}, {3, filled(2)}, {24, filled(3)}, {2, filled(4)}}},
		{"a block written twice", []api.Txn{{Writes: w(to(1, 1), to(2, 2))}, {Writes: w(to(2, 3), to(1, 4))}}, []op{{1, filled(1)}, {2, filled(2)}, {2, filled(3)}, {1, filled(4)}}},
		{"a block written thrice, the same at last", []api.Txn{{Writes: w(to(1, 1))}, {Writes: w(to(1, 2))}, {Writes: w(to(1, 1))}}, []op{{1, filled(1)}, {1, filled(2)}, {1, filled(1)}}},
		{"Revokes alone", []api.Txn{{Revokes: []int{1, 2}}}, nil},
		{"revoked by a later record", []api.Txn{{Writes: w(to(1, 1), to(2, 2))}, {Revokes: []int{1}}}, []op{{2, filled(2)}}},
		{"revoked by a much later record", []api.Txn{{Writes: w(to(1, 1), to(2, 2))}, {Writes: w(to(3, 3))}, {Writes: w(to(4, 4))}, {Writes: w(to(5, 5)), Revokes: []int{2, 23, 4}}}, []op{{1, filled(1)}, {3, filled(3)}, {5, filled(5)}}},
		{"all revoked", []api.Txn{{Writes: w(to(1, 1), to(2, 2))}, {Revokes: []int{2, 1}}}, nil},
		{"a Revoke of another block of the same record", []api.Txn{{Writes: w(to(1, 1)), Revokes: []int{2}}}, []op{{1, filled(1)}}},
		{"revoked by an earlier record", []api.Txn{{Revokes: []int{1}}, {Writes: w(to(1, 1))}}, []op{{1, filled(1)}}},
		{"written, revoked, and written again", []api.Txn{{Writes: w(to(1, 1))}, {Revokes: []int{1}}, {Writes: w(to(1, 3))}}, []op{{1, filled(3)}}},
		{"written, written, revoked, written, written", []api.Txn{{Writes: w(to(1, 1))}, {Writes: w(to(1, 2))}, {Revokes: []int{1}}, {Writes: w(to(1, 4))}, {Writes: w(to(1, 5))}}, []op{{1, filled(4)}, {1, filled(5)}}},
		{"revoked, written, revoked", []api.Txn{{Revokes: []int{1}}, {Writes: w(to(1, 1), to(2, 2))}, {Revokes: []int{1}}}, []op{{2, filled(2)}}},
		{"revoked twice, written between", []api.Txn{{Writes: w(to(1, 1))}, {Revokes: []int{1}}, {Writes: w(to(1, 3))}, {Revokes: []int{1}}}, nil},
		{"revoked twice", []api.Txn{{Writes: w(to(1, 1))}, {Revokes: []int{1}}, {Revokes: []int{1}}, {Writes: w(to(1, 4))}}, []op{{1, filled(4)}}},
		{"block 0", []api.Txn{{Writes: w(to(0, 1))}, {Revokes: []int{0}}, {Writes: w(to(27, 2))}}, []op{{27, filled(2)}}},
		{"data like the log's own", []api.Txn{{Writes: w(api.Write{Block: 1, Data: plainHead(1, 0)})}}, []op{{1, plainHead(1, 0)}}},
	}
}

// begun: a log that appended these records, the first one with that Seq.
func begun(t *testing.T, records []api.Txn, seq uint64) (*disk.Disk, *Log) {
	t.Helper()
	d, l := at(t, 28, 6, 16, seq, 13) // 15 places, and blocks 0 to 5 and 22 to 27 beside
	for i, x := range records {
		wantAppend(t, l, x.Writes, x.Revokes, seq+uint64(i))
	}
	return d, l
}

func TestHomeWrites(t *testing.T) {
	for _, c := range lives() {
		for _, seq := range []uint64{0, 1, 1 << 40} {
			place := 13
			for _, x := range c.records {
				place = (place + len(x.Writes) + 2) % 15
			}
			head := op{6, plainHead(seq+uint64(len(c.records)), uint32(place))}
			ops := append(append([]op{flush}, c.home...), flush, head, flush)
			begin := func() (*disk.Disk, *Log) {
				d, l := begun(t, c.records, seq)
				play(t, d, []op{{26, filled(8)}}) // of others, and pending
				return d, l
			}
			wantOps(t, c.what, begin, func(_ *disk.Disk, l *Log) { l.Home() }, ops)
			_, l := begin()
			l.Home()
			wantState(t, c.what, l, 15, seq+uint64(len(c.records)), place)
		}
	}
}

// Home writes nothing over but what goes home, and the head.
func TestHomeLeavesTheRest(t *testing.T) {
	for _, c := range lives() {
		d, l := begun(t, c.records, 1)
		want := d.Copy()
		l.Home()
		seq, place := l.Next()
		play(t, want, append(c.home, op{6, plainHead(seq, uint32(place))}, flush))
		if !bytes.Equal(d.Stable(), want.Stable()) || !bytes.Equal(d.Image(), want.Image()) {
			t.Errorf("%s: other blocks", c.what)
		}
	}
}

// P4.2: what is read behind Home, and that nothing is pending.

func TestWhatIsReadBehindHome(t *testing.T) {
	for _, c := range lives() {
		d, l := begun(t, c.records, 1)
		for _, block := range []int{0, 1, 2, 3, 4, 5, 22, 23, 24, 25, 26, 27} { // what was there ahead, of others
			play(t, d, []op{{block, filled(0xee)}})
		}
		last := map[int][]byte{}
		for _, o := range c.home {
			last[o.block] = o.data
		}
		l.Home()
		if d.Pending() != 0 {
			t.Errorf("%s: Pending %d", c.what, d.Pending())
		}
		for _, block := range []int{0, 1, 2, 3, 4, 5, 22, 23, 24, 25, 26, 27} {
			if data, ok := last[block]; ok {
				wantRead(t, d, block, data)
			} else {
				wantRead(t, d, block, filled(0xee))
			}
		}
		read := d.Image()
		d.Crash(nil)
		if !bytes.Equal(d.Image(), read) {
			t.Errorf("%s: a crash behind Home loses what is home", c.what)
		}
	}
}

// What a Home brought home, later records neither bring again nor revoke.
func TestHomeForgets(t *testing.T) {
	d, l := at(t, 28, 6, 16, 1, 0)
	wantAppend(t, l, []api.Write{to(1, 1), to(2, 2)}, []int{3}, 1)
	l.Home()
	play(t, d, []op{{1, filled(9)}}) // of another
	wantAppend(t, l, []api.Write{to(3, 3)}, []int{2}, 2)
	l.Home()
	wantRead(t, d, 1, filled(9))
	wantRead(t, d, 2, filled(2))
	wantRead(t, d, 3, filled(3))
	wantState(t, "two records", l, 15, 3, 7)
}

// Writes of others between: over the ring, the head, and blocks that go home.
func TestOthersUseTheDisk(t *testing.T) {
	d, l := at(t, 28, 6, 16, 1, 0)
	wantAppend(t, l, []api.Write{to(1, 1), to(2, 2)}, nil, 1)
	play(t, d, []op{{1, filled(9)}, {4, filled(8)}, {6, filled(7)}})
	for block := 7; block < 22; block++ {
		play(t, d, []op{{block, filled(6)}})
	}
	d.Crash(nil)
	play(t, d, []op{{5, filled(5)}})
	wantAppend(t, l, nil, []int{2}, 2)
	wantRead(t, d, 7, make([]byte, 256)) // lost, and not written again
	wantState(t, "others write", l, 9, 3, 6)
	l.Home() // what was appended goes home, whatever the ring holds
	wantRead(t, d, 1, filled(1))
	wantRead(t, d, 2, make([]byte, 256))
	wantRead(t, d, 4, make([]byte, 256))
	wantRead(t, d, 5, filled(5))
	wantRead(t, d, 6, plainHead(3, 6))
	wantState(t, "opened again", opened(t, d, 6, 16), 15, 3, 6)
}

func TestTwoLogsOfOneDisk(t *testing.T) {
	d := formatted(t, 40, 0, 10)
	if err := Format(d, 20, 12); err != api.OK {
		t.Fatal(err)
	}
	one, two := opened(t, d, 0, 10), opened(t, d, 20, 12)
	wantAppend(t, one, []api.Write{to(12, 1)}, nil, 1)
	wantAppend(t, two, []api.Write{to(12, 2), to(13, 3)}, nil, 1)
	wantAppend(t, one, []api.Write{to(14, 4)}, []int{13}, 2)
	wantState(t, "the one", one, 3, 3, 6)
	wantState(t, "the other", two, 7, 2, 4)
	two.Home()
	wantRead(t, d, 13, filled(3))
	wantRead(t, d, 12, filled(2))
	wantState(t, "the one", one, 3, 3, 6)
	one.Home()
	wantRead(t, d, 12, filled(1))
	wantRead(t, d, 14, filled(4))
	wantRead(t, d, 0, plainHead(3, 6))
	wantRead(t, d, 20, plainHead(2, 4))
}

// P4.3: Room and Seqs.

func TestRoomAndSeqs(t *testing.T) {
	d, l := at(t, 64, 0, 40, 100, 30) // 39 places
	seq, place := uint64(100), 30
	for turn := range 30 {
		room := 39
		for n := turn % 5; n+2 <= room; n = (n + 3) % 7 {
			revokes := []int{63}
			if n > 0 && turn%2 == 0 {
				revokes = nil
			}
			wantAppend(t, l, someWrites(40, n, 1), revokes, seq)
			room, seq, place = room-n-2, seq+1, (place+n+2)%39
			wantState(t, "a record more", l, room, seq, place)
		}
		wantRefused(t, "no room", d, l, someWrites(40, 20, 1), nil, api.ErrSpace)
		l.Home()
		wantState(t, "behind Home", l, 39, seq, place)
		wantState(t, "opened again", opened(t, d, 0, 40), 39, seq, place)
	}
}

// P4.4: what is handed in.

func TestArgumentsStay(t *testing.T) {
	d, l := at(t, 28, 6, 16, 1, 0)
	back := noise(3*300, 1) // each Data has room behind it
	writes := make([]api.Write, 5)
	for i := range 2 {
		data := back[300*i : 300*i+256]
		copy(data, "ULOG")
		writes[i] = api.Write{Block: i + 1, Data: data}
	}
	writes[2], writes[3], writes[4] = to(21, 1), to(22, 2), to(23, 3)
	revokes := []int{25, 24, 23, 22}
	wasBack := bytes.Clone(back)
	want := copied(api.Txn{Writes: writes, Revokes: revokes})
	call := func() {
		l.Append(writes[:2], revokes[:2])
		l.Append(writes[:3], revokes[:2]) // block 21 is in the area
		l.Sync()
		l.Home()
	}
	call()
	call()
	if !bytes.Equal(back, wasBack) {
		t.Error("Data, or what stands behind it, was changed")
	}
	for i, w := range writes {
		if w.Block != want.Writes[i].Block || !bytes.Equal(w.Data, want.Writes[i].Data) {
			t.Errorf("Write %d was changed", i)
		}
	}
	for i, r := range revokes {
		if r != want.Revokes[i] {
			t.Errorf("Revoke %d was changed", i)
		}
	}
	wantRead(t, d, 1, wasBack[:256])
	wantRead(t, d, 2, wasBack[300:556])
}

func TestArgumentsAreNotKept(t *testing.T) {
	d, l := at(t, 28, 6, 16, 1, 0)
	one, two := filled(1), filled(2)
	writes := []api.Write{{Block: 1, Data: one}, {Block: 2, Data: two}}
	revokes := []int{3, 4}
	wantAppend(t, l, []api.Write{to(3, 3), to(5, 5)}, nil, 1)
	wantAppend(t, l, writes, revokes, 2)
	clear(one)
	writes[0] = to(22, 6)
	writes[1].Block = 23
	copy(two, "other bytes")
	revokes[0], revokes[1] = 5, 1
	l.Home()
	wantRead(t, d, 1, filled(1))
	wantRead(t, d, 2, filled(2))
	wantRead(t, d, 3, make([]byte, 256)) // revoked, as was said then
	wantRead(t, d, 5, filled(5))         // and this isn't
	wantRead(t, d, 22, make([]byte, 256))
	wantRead(t, d, 23, make([]byte, 256))
}
