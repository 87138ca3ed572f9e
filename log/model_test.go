package log

import (
	"math/rand"
	"testing"

	"undercroft/api"
	"undercroft/disk"
)

// A pair is a disk with a log, and a disk with a plain log beside it, to which all is done alike.
type pair struct {
	d, want *disk.Disk
	l       *Log
	p       *plain
}

func newPair(t *testing.T, r *rand.Rand) *pair {
	t.Helper()
	size := 12 + r.Intn(30)
	length := 8 + r.Intn(min(size-10, 12))
	start := r.Intn(size - length + 1)
	seq := []uint64{0, 1, r.Uint64(), 1<<64 - 2}[r.Intn(4)]
	place := r.Intn(length - 1)
	d, l := at(t, size, start, length, seq, place)
	return &pair{d, d.Copy(), l, &plain{size: size, start: start, length: length, seq: seq, place: place}}
}

// anyRecord: Writes and Revokes, most of which may be; few blocks, so that they meet.
func (x *pair) anyRecord(r *rand.Rand) ([]api.Write, []int) {
	free := outside(x.p)
	r.Shuffle(len(free), func(i, j int) { free[i], free[j] = free[j], free[i] })
	free = free[:min(len(free), 5)]
	n := r.Intn(len(free) + 1)
	k := n + r.Intn(len(free)-n+1)
	var writes []api.Write
	for _, block := range free[:n] {
		writes = append(writes, someWrites(block, 1, r.Uint32())...)
	}
	revokes := free[n:k:k]
	switch r.Intn(20) {
	case 0:
		writes = append(writes, to(r.Intn(x.p.size+2)-1, 1))
	case 1:
		revokes = append(revokes, r.Intn(x.p.size+2)-1)
	case 2:
		writes = append(writes, api.Write{Block: free[0], Data: noise(r.Intn(300), 1)})
	}
	return writes, revokes
}

func anyBits(r *rand.Rand, n int) []byte {
	b := make([]byte, n/8+1)
	r.Read(b)
	return b
}

// step: some call, done to both; what it was.
func (x *pair) step(t *testing.T, r *rand.Rand) string {
	t.Helper()
	switch k := r.Intn(30); {
	case k < 14:
		writes, revokes := x.anyRecord(r)
		seq, err, ops := x.p.append(writes, revokes)
		play(t, x.want, ops)
		if got, is := x.l.Append(writes, revokes); got != seq || is != err {
			t.Errorf("Append of %d Writes and %d Revokes: Seq %d, error %d, want Seq %d, error %d", len(writes), len(revokes), got, is, seq, err)
		}
		return "Append"
	case k < 17:
		x.l.Home()
		play(t, x.want, x.p.home())
		return "Home"
	case k < 19:
		x.l.Sync()
		play(t, x.want, []op{flush})
		return "Sync"
	case k < 24:
		n := r.Intn(10) - 2
		x.d.Fuse(n)
		x.want.Fuse(n)
		return "Fuse"
	}
	return x.others(t, r)
}

// others: what others do to the disk.
func (x *pair) others(t *testing.T, r *rand.Rand) string {
	t.Helper()
	switch r.Intn(4) {
	case 0:
		bits := anyBits(r, x.d.Pending())
		x.d.Settle(bits)
		x.want.Settle(bits)
		return "Settle"
	case 1:
		bits := anyBits(r, 4*x.d.Pending())
		x.d.Crash(bits)
		x.want.Crash(bits)
		return "Crash"
	}
	o := op{r.Intn(x.p.size), noise(256, r.Uint32())}
	play(t, x.d, []op{o})
	play(t, x.want, []op{o})
	return "a write of others"
}

// P4.1 to P4.3: any calls, as the document's words have them.
func TestAnyOrderOfCalls(t *testing.T) {
	for seed := range int64(300) {
		r := rand.New(rand.NewSource(seed))
		x := newPair(t, r)
		for n := range 60 {
			what := x.step(t, r)
			wantDisk(t, what, x.d, x.want)
			wantState(t, what, x.l, x.p.room(), x.p.seq, x.p.place)
			if t.Failed() {
				t.Fatalf("seed %d, step %d, behind %s", seed, n, what)
			}
		}
	}
}

// P1: nothing hangs on the order in which maps are gone through, or on what was called ahead.
func TestEqualLogsDoTheSame(t *testing.T) {
	for seed := range int64(20) {
		one, two := newPair(t, rand.New(rand.NewSource(seed))), newPair(t, rand.New(rand.NewSource(seed)))
		r, again := rand.New(rand.NewSource(seed+1)), rand.New(rand.NewSource(seed+1))
		for range 60 {
			one.step(t, r)
			two.step(t, again)
			wantDisk(t, "an equal log", one.d, two.d)
			seq, place := two.l.Next()
			wantState(t, "an equal log", one.l, two.l.Room(), seq, place)
		}
	}
}
