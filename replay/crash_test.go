package replay

import (
	"bytes"
	"math/rand"
	"testing"

	"undercroft/api"
	"undercroft/disk"
	"undercroft/log"
	"undercroft/record"
)

// crashes: the bits of crashes that keep no sector, all, all of one pending write, all but one's, one sector, all but one, the first or last ones, and some.
func crashes(d *disk.Disk, r *rand.Rand) [][]byte {
	n := 4 * d.Pending()
	l := [][]byte{nil, all(d)}
	for k := range d.Pending() {
		l = append(l, kept(k), without(d, kept(k)))
	}
	for range 4 {
		s := r.Intn(n + 1)
		one := make([]byte, n/8+1)
		one[s/8] = 1 << (s % 8)
		l = append(l, one, without(d, one))
		var first []byte
		for k := range r.Intn(d.Pending() + 1) {
			first = append(first, kept(k)...)[:k/2+1]
			first[k/2] |= kept(k)[k/2]
		}
		l = append(l, first, without(d, first))
		some := make([]byte, n/8+1)
		r.Read(some)
		l = append(l, some)
	}
	return l
}

// without: the bits of a crash that keeps all but these.
func without(d *disk.Disk, bits []byte) []byte {
	l := all(d)
	for i, b := range bits {
		if i < len(l) {
			l[i] &^= b
		}
	}
	return l
}

// stands: how many of these records stand in the ring as they were written, from that place on, up to the first that doesn't.
func stands(t *testing.T, d *disk.Disk, a span, place int, live []api.Txn) int {
	t.Helper()
	image := d.Image()
	for i, x := range live {
		b := encoded(t, x)
		for k := range len(b) / 256 {
			at := 256 * a.placed(place+k)
			if !bytes.Equal(image[at:at+256], b[256*k:256*k+256]) {
				return i
			}
		}
		place += len(b) / 256
	}
	return len(live)
}

// used: a disk with an area that records went round already, and a log on it whose records are home.
func used(t *testing.T, a span, turns int) (*disk.Disk, *log.Log) {
	t.Helper()
	d := formatted(t, a)
	l := opened(t, d, a)
	for k := range turns {
		appended(t, l, a.some(k%3, 1, uint32(100*k)), a.some(1, 0, uint32(100*k+50)))
		l.Home()
	}
	return d, l
}

// P5.2: a crash in the middle of appends, by a fuse at each of their operations, or behind them all.

func TestCrashesOfAppends(t *testing.T) {
	r := rand.New(rand.NewSource(1))
	a := span{40, 6, 18}
	for turns := range 9 {
		d, l := used(t, a, turns)
		_, place := l.Next()
		for fuse := -1; fuse < 16; fuse++ {
			one := d.Copy()
			m := opened(t, one, a)
			one.Fuse(fuse)
			live := appended(t, m, a.some(1, 1, 1), a.some(2, 0, 2), revoking(0), a.some(3, 1, 5))
			wantChain(t, "ahead of the crash", one, a, live)
			for _, bits := range crashes(one, r) {
				two := one.Copy()
				two.Crash(bits)
				wantChain(t, "behind the crash", two, a, live[:stands(t, two, a, place, live)])
			}
			one.Crash(all(one))
			if fuse < 0 {
				wantChain(t, "a crash that keeps all", one, a, live)
			}
		}
	}
}

// With all flushed, or the first ones of them.
func TestCrashesBehindSync(t *testing.T) {
	r := rand.New(rand.NewSource(2))
	a := span{40, 6, 18}
	for turns := range 9 {
		d, l := used(t, a, turns)
		live := appended(t, l, a.some(1, 1, 1), a.some(2, 0, 2))
		l.Sync()
		for _, bits := range crashes(d, r) {
			one := d.Copy()
			one.Crash(bits)
			wantChain(t, "all flushed", one, a, live)
		}
		live = append(live, appended(t, l, a.some(0, 1, 3), a.some(3, 1, 5))...)
		for _, bits := range crashes(d, r) {
			one := d.Copy()
			one.Crash(bits)
			if n := len(scanned(t, "two flushed", one, a)); n < 2 {
				t.Errorf("%d records, though two were flushed", n)
			}
			wantChain(t, "two flushed", one, a, live[:len(scanned(t, "two flushed", one, a))])
		}
		l.Sync()
		d.Crash(nil)
		wantChain(t, "all flushed", d, a, live)
	}
}

// One that is lost keeps those behind it out of the chain.
func TestRecordsBehindALostOne(t *testing.T) {
	a := span{40, 0, 20}
	for lost := range 6 { // records of 3 blocks each
		d := formatted(t, a)
		l := opened(t, d, a)
		var live []api.Txn
		for k := range 6 {
			live = append(live, appended(t, l, writing(to(30+k, byte(k+1))))...)
		}
		for block := range 3 {
			one := d.Copy()
			one.Crash(without(one, kept(3*lost+block)))
			wantChain(t, "one block lost", one, a, live[:lost])
			wantRecover(t, "one block lost", one, a, lost)
			for k := range 6 {
				want := make([]byte, 256)
				if k < lost {
					want = filled(byte(k + 1))
				}
				wantRead(t, one, 30+k, want)
			}
		}
	}
}

// In the middle of the way home, by a fuse at each of its operations: the chain is all live records till it is none, and what Recover brings home is what Home would have.
func TestCrashesOfHome(t *testing.T) {
	r := rand.New(rand.NewSource(3))
	a := span{32, 6, 20}
	for _, c := range lives() {
		d := headed(t, a, 7, 15, true)
		live := appended(t, opened(t, d, a), c.records...)
		d.Flush()
		whole := d.Copy()
		wantRecover(t, c.what, whole, a, len(live))
		want := outside(whole, a)
		for fuse := range len(c.home) + 6 {
			one := headed(t, a, 7, 15, true)
			l := opened(t, one, a)
			appended(t, l, c.records...)
			l.Sync()
			one.Fuse(fuse)
			l.Home()
			for _, bits := range crashes(one, r) {
				two := one.Copy()
				two.Crash(bits)
				if n := len(scanned(t, c.what, two, a)); n != 0 {
					wantChain(t, c.what, two, a, live)
				} else if !bytes.Equal(outside(two, a), want) {
					t.Errorf("%s: a fuse of %d: no record, and they aren't home", c.what, fuse)
				}
				wantRecover(t, c.what, two, a, len(scanned(t, c.what, two, a)))
				if !bytes.Equal(outside(two, a), want) {
					t.Errorf("%s: a fuse of %d: other bytes are home", c.what, fuse)
				}
			}
		}
	}
}

// P5.3: Recover, crashed by a fuse at each operation in turn, and Recover again.

// wantHome: Recover again, without a crash, brings these bytes home, and a log can be opened behind it.
func wantHome(t *testing.T, what string, d *disk.Disk, a span, want []byte) {
	t.Helper()
	if _, err := Recover(d, a.start, a.length); err != api.OK {
		t.Fatalf("%s: Recover again: error %d", what, err)
	}
	if !bytes.Equal(outside(d, a), want) {
		t.Errorf("%s: Recover again: other bytes are home", what)
	}
	wantChain(t, what, d, a, nil)
	l := opened(t, d, a)
	if l.Room() != a.ring() || d.Pending() != 0 {
		t.Errorf("%s: Room %d, Pending %d behind Recover", what, l.Room(), d.Pending())
	}
	live := appended(t, l, writing(to(a.free()[0], 0xcc)))
	wantChain(t, what, d, a, live)
	d.Crash(nil)
	wantChain(t, what, d, a, nil)
	if !bytes.Equal(outside(d, a), want) {
		t.Errorf("%s: a crash behind Recover loses what is home", what)
	}
}

// wantAgain: P5.3 of a disk, at whatever operation of Recover the fuse blows.
func wantAgain(t *testing.T, what string, d *disk.Disk, a span, r *rand.Rand) {
	t.Helper()
	d.Flush()
	seq, place := opened(t, d, a).Next()
	ops, n := plainRecover(d.Image(), a, seq, place)
	whole := d.Copy()
	wantRecover(t, what, whole, a, n)
	want := outside(whole, a)
	wantHome(t, what, whole, a, want) // made twice, without a crash
	for fuse := range len(ops) + 1 {
		one := d.Copy()
		one.Fuse(fuse)
		wantRecover(t, what, one, a, n)
		for _, bits := range crashes(one, r) {
			two := one.Copy()
			two.Crash(bits)
			if k := len(scanned(t, what, two, a)); k != n && !bytes.Equal(outside(two, a), want) {
				t.Errorf("%s: the chain has %d of %d records, and they aren't home", what, k, n)
			}
			three := two.Copy()
			wantHome(t, what, two, a, want)
			three.Fuse(r.Intn(len(ops))) // and a crash of the second one
			Recover(three, a.start, a.length)
			three.Crash(without(three, kept(r.Intn(4))))
			wantHome(t, what, three, a, want)
		}
		if t.Failed() {
			t.Fatalf("%s: a fuse of %d", what, fuse)
		}
	}
}

func TestRecoverAgain(t *testing.T) {
	r := rand.New(rand.NewSource(4))
	a := span{32, 6, 20}
	for _, c := range lives() {
		d := headed(t, a, 7, 15, true)
		layAll(t, d, a, 7, 15, c.records...)
		wantAgain(t, c.what, d, a, r)
	}
}

// Where the ring is full, the block of noughts is written over the chain's own beginning.
func TestRecoverAgainOfAFullRing(t *testing.T) {
	r := rand.New(rand.NewSource(5))
	a := span{32, 6, 10}
	for place := range a.ring() {
		for _, records := range [][]api.Txn{
			{a.some(7, 0, 1)},
			{a.some(1, 1, 1), a.some(2, 0, 2), a.some(0, 1, 3)},
			{revoking(1, 2), writing(to(1, 1)), writing(to(1, 2), to(2, 2))},
		} {
			d := headed(t, a, 7, place, false)
			_, behind := layAll(t, d, a, 7, place, records...)
			if behind != place {
				t.Fatal("the test asks for a full ring")
			}
			wantAgain(t, "a full ring", d, a, r)
		}
	}
}

func TestRecoverAgainOfNoRecord(t *testing.T) {
	r := rand.New(rand.NewSource(6))
	a := span{32, 6, 10}
	wantAgain(t, "a new log", formatted(t, a), a, r)
	d := headed(t, a, 7, 3, true)
	layAll(t, d, a, 8, 6, a.some(1, 0, 1))
	wantAgain(t, "an old record", d, a, r)
}

// P5.4: what was in the ring ahead of Recover.

// inRing: all records that begin at any place of the ring.
func inRing(t *testing.T, d *disk.Disk, a span) []api.Txn {
	t.Helper()
	image := d.Image()
	var l []api.Txn
	for place := range a.ring() {
		at := 256 * a.placed(place)
		if !bytes.Equal(image[at:at+5], []byte("ULOG\x01")) {
			continue
		}
		seq := uint64(0)
		for i := range 8 {
			seq |= uint64(image[at+8+i]) << (8 * i)
		}
		for n := 2; n <= min(60, a.ring()); n++ {
			if x, ok := a.whole(image, place, n, seq); ok {
				l = append(l, x)
			}
		}
	}
	return l
}

// wantNoneOf: no record of the chain is one of the old ones.
func wantNoneOf(t *testing.T, what string, d *disk.Disk, a span, old []api.Txn) {
	t.Helper()
	for _, x := range scanned(t, what, d, a) {
		for _, y := range old {
			if sameRecord(x, y) {
				t.Errorf("%s: record %d, which was in the ring ahead of Recover, is in the chain", what, x.Seq)
			}
		}
	}
}

// Records whose forerunner a crash lost stand in the ring still; new ones that take its place must not bring them back.
func TestOldRecordsStayOut(t *testing.T) {
	a := span{40, 0, 20}
	for lost := range 6 {
		d := formatted(t, a)
		l := opened(t, d, a)
		for k := range 6 { // of 3 blocks each
			appended(t, l, writing(to(30+k, byte(k+1))))
		}
		d.Crash(without(d, kept(3*lost, 3*lost+2)))
		if n := len(inRing(t, d, a)); n != 5 {
			t.Fatalf("%d records in the ring", n)
		}
		for _, keep := range []bool{true, false} { // Recover as a whole, or without its block of noughts
			one := d.Copy()
			old := inRing(t, one, a)
			one.Fuse(lost + 3)
			wantRecover(t, "one lost", one, a, lost)
			if keep {
				one.Crash(all(one))
			} else {
				one.Crash(kept(1))
			}
			wantChain(t, "behind Recover", one, a, nil)
			m := opened(t, one, a)
			live := appended(t, m, writing(to(25, 9))) // of 3 blocks, just ahead of an old record
			if live[0].Seq != uint64(1+lost+20) {
				t.Errorf("Seq %d behind %d records", live[0].Seq, lost)
			}
			wantChain(t, "one record", one, a, live)
			wantNoneOf(t, "one record", one, a, old)
			live = append(live, appended(t, m, writing(to(26, 9)))...)
			wantChain(t, "two records", one, a, live)
			one.Crash(kept(3, 4, 5))
			wantChain(t, "the second one alone", one, a, nil)
		}
	}
}

// Recoveries one behind the other, of a ring that is full of old records.
func TestManyRecoveries(t *testing.T) {
	a := span{40, 0, 20}
	d := formatted(t, a)
	for turn := range 40 {
		old := inRing(t, d, a)
		l := opened(t, d, a)
		var live []api.Txn
		for k := range 6 {
			live = append(live, appended(t, l, writing(to(30+k, byte(turn+1))))...)
			wantChain(t, "records appended", d, a, live)
			wantNoneOf(t, "records appended", d, a, old)
		}
		lost := turn * 5 % 7 // one of six, or none
		d.Crash(without(d, kept(3*lost)))
		wantChain(t, "behind a crash", d, a, live[:lost])
		old = inRing(t, d, a)
		wantRecover(t, "behind a crash", d, a, lost)
		wantNoneOf(t, "behind Recover", d, a, old)
	}
}

// P5.2 to P5.4 together: a log that lives through any calls, crashes and recoveries.

// A world is a disk with a log, and what the document says of it.
type world struct {
	a       span
	d       *disk.Disk
	l       *log.Log
	states  [][]int // by record since the last recovery, from none on: what each block holds (0: as ever, -1: anything)
	synced  int     // how many of the records no crash loses
	written int     // goes up with each Write, and stands in its data
	old     []api.Txn
	live    []api.Txn
}

func newWorld(t *testing.T, r *rand.Rand) *world {
	t.Helper()
	size := 14 + r.Intn(20)
	length := 8 + r.Intn(min(size-12, 14))
	a := span{size, r.Intn(size - length + 1), length}
	d := formatted(t, a)
	return &world{a: a, d: d, l: opened(t, d, a), states: [][]int{make([]int, size)}}
}

// numbered: a block of that number over and over.
func numbered(n int) []byte {
	return bytes.Repeat([]byte{byte(n), byte(n >> 8), byte(n >> 16), 7}, 64)
}

// append: a record of few blocks, so that they meet; nothing, if there is no room for it.
func (x *world) append(r *rand.Rand) {
	free := x.a.free()
	r.Shuffle(len(free), func(i, j int) { free[i], free[j] = free[j], free[i] })
	free = free[:min(4, len(free))]
	n := r.Intn(len(free) + 1)
	record := api.Txn{Revokes: free[n : n+r.Intn(len(free)-n+1)]}
	state := append([]int{}, x.states[len(x.states)-1]...)
	for _, block := range free[:n] {
		x.written++
		record.Writes = append(record.Writes, api.Write{Block: block, Data: numbered(x.written)})
		state[block] = x.written
	}
	for _, block := range record.Revokes {
		state[block] = -1
	}
	seq, err := x.l.Append(record.Writes, record.Revokes)
	if err != api.OK {
		return
	}
	record.Seq = seq
	x.states = append(x.states, state)
	x.live = append(x.live, record)
}

// holds: whether the disk holds outside of the area what it does behind that many records.
func (x *world) holds(k int) bool {
	for _, block := range x.a.free() {
		want := x.states[k][block]
		b, _ := x.d.Read(block)
		if want > 0 && !bytes.Equal(b, numbered(want)) || want == 0 && !bytes.Equal(b, make([]byte, 256)) {
			return false
		}
	}
	return true
}

// crash: a crash that keeps any sectors, and a recovery, which may crash too.
func (x *world) crash(t *testing.T, r *rand.Rand) {
	t.Helper()
	bits := make([]byte, x.d.Pending()/2+1)
	r.Read(bits)
	if r.Intn(2) == 0 {
		bits = without(x.d, kept(r.Intn(x.d.Pending()+1)))
	}
	x.d.Crash(bits)
	chain := scanned(t, "behind a crash", x.d, x.a)
	if !sameRecords(chain, x.live[:min(len(chain), len(x.live))]) {
		t.Errorf("records %v, of which %v were live", seqs(chain), seqs(x.live))
	}
	ring := inRing(t, x.d, x.a)
	wantNoneOf(t, "behind a crash", x.d, x.a, x.old)
	for r.Intn(3) == 0 {
		x.d.Fuse(r.Intn(10))
		Recover(x.d, x.a.start, x.a.length)
		x.d.Crash([][]byte{nil, all(x.d), kept(1), kept(0), bits}[r.Intn(5)])
	}
	if _, err := Recover(x.d, x.a.start, x.a.length); err != api.OK {
		t.Fatalf("Recover: error %d", err)
	}
	x.old = append(x.old, ring...)
	wantNoneOf(t, "behind Recover", x.d, x.a, x.old)
	x.settle(t)
}

// settle: the disk holds what it did behind some record, not ahead of the last that was synced; a log goes on from there.
func (x *world) settle(t *testing.T) {
	t.Helper()
	for k := len(x.states) - 1; k >= x.synced; k-- {
		if x.holds(k) {
			state := x.states[k]
			for block, n := range state { // what nothing is said of is as it is from now on
				if b, _ := x.d.Read(block); n < 0 {
					state[block] = int(b[0]) | int(b[1])<<8 | int(b[2])<<16
				}
			}
			x.states, x.synced, x.live = [][]int{state}, 0, nil
			x.l = opened(t, x.d, x.a)
			return
		}
	}
	t.Fatalf("the disk isn't as behind any of %d records, from %d on", len(x.states), x.synced)
}

func (x *world) step(t *testing.T, r *rand.Rand) {
	t.Helper()
	switch k := r.Intn(20); {
	case k < 11:
		x.append(r)
	case k < 13:
		x.l.Sync()
		x.synced = len(x.states) - 1
	case k < 15:
		if len(x.live) > 0 { // else nothing is flushed
			x.l.Home()
			x.synced = len(x.states) - 1
		}
		x.live = nil
	case k < 17:
		bits := make([]byte, x.d.Pending()/8+1)
		r.Read(bits)
		x.d.Settle(bits)
	case k < 18: // a crash in the middle of a way home, or of appends
		x.d.Fuse(r.Intn(12))
		for r.Intn(3) > 0 {
			x.append(r)
		}
		if r.Intn(2) == 0 {
			x.l.Home()
		}
		x.crash(t, r)
	default:
		x.crash(t, r)
	}
}

func TestAnyCrashes(t *testing.T) {
	for seed := range int64(400) {
		r := rand.New(rand.NewSource(seed))
		x := newWorld(t, r)
		for n := range 80 {
			x.step(t, r)
			if t.Failed() {
				t.Fatalf("seed %d, step %d", seed, n)
			}
		}
	}
}

// The records that tests write by hand are those that the log writes.
func TestTheTestsRecordsAreTheLogs(t *testing.T) {
	a := span{32, 6, 20}
	for _, c := range lives() {
		d := headed(t, a, 7, 15, true)
		one := d.Copy()
		appended(t, opened(t, d, a), c.records...)
		layAll(t, one, a, 7, 15, c.records...)
		wantDisk(t, c.what, one, d)
		for _, x := range inRing(t, d, a) {
			if _, err := record.Encode(x); err != api.OK {
				t.Errorf("%s: record %d can't be told", c.what, x.Seq)
			}
		}
	}
}
