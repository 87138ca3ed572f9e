package replay

import (
	"bytes"
	"encoding/binary"
	"hash/crc32"
	"testing"

	"undercroft/api"
	"undercroft/disk"
	"undercroft/log"
	"undercroft/record"
)

// The document's words, said as plainly as can be, over the bytes that are read of a disk.

// An op is one operation on a disk: a Write, or a Flush (data nil).
type op struct {
	block int
	data  []byte
}

var flush = op{}

// play: does these operations.
func play(t *testing.T, d *disk.Disk, ops ...op) {
	t.Helper()
	for _, o := range ops {
		if o.data == nil {
			d.Flush()
		} else if err := d.Write(o.block, o.data); err != api.OK {
			t.Fatalf("Write(%d): error %d", o.block, err)
		}
	}
}

// sealed: a block of these first 20 bytes, their sum, and 0.
func sealed(first []byte) []byte {
	b := make([]byte, 256)
	copy(b, first)
	binary.LittleEndian.PutUint32(b[20:], crc32.Checksum(b[:20], crc32.MakeTable(crc32.Castagnoli)))
	return b
}

func plainHead(seq uint64, place uint32) []byte {
	b := []byte{'U', 'L', 'O', 'G', 3, 0, 0, 0}
	b = binary.LittleEndian.AppendUint64(b, seq)
	return sealed(binary.LittleEndian.AppendUint32(b, place))
}

// A span is an area of a disk of so many blocks.
type span struct{ blocks, start, length int }

// ring: how many blocks the ring has.
func (a span) ring() int { return a.length - 1 }

// placed: the disk's block of a place, or of one that goes on round the ring.
func (a span) placed(place int) int { return a.start + 1 + place%a.ring() }

// outside: the number of one of the disk's blocks that isn't in the area.
func (a span) outside(block int) bool {
	for i := range a.blocks {
		if i == block {
			return i < a.start || i > a.start+a.length-1
		}
	}
	return false
}

// free: all of the disk's blocks that aren't in the area.
func (a span) free() []int {
	var l []int
	for i := range a.blocks {
		if a.outside(i) {
			l = append(l, i)
		}
	}
	return l
}

func (a span) takes(x api.Txn) bool {
	for _, w := range x.Writes {
		if !a.outside(w.Block) {
			return false
		}
	}
	for _, block := range x.Revokes {
		if !a.outside(block) {
			return false
		}
	}
	return true
}

// whole: the record of just n blocks that is read from that place on.
func (a span) whole(image []byte, place, n int, seq uint64) (api.Txn, bool) {
	var b []byte
	for k := range n {
		at := 256 * a.placed(place+k)
		b = append(b, image[at:at+256]...)
	}
	x, blocks, ok := record.Decode(b, seq)
	return x, ok && blocks == n
}

// plainChain: the chain of an area with a head of that Seq and that place, and how many blocks it has.
func plainChain(image []byte, a span, seq uint64, place int) ([]api.Txn, int) {
	var chain []api.Txn
	used := 0
next:
	for {
		for n := 2; n <= 60 && used+n <= a.ring(); n++ {
			x, ok := a.whole(image, place+used, n, seq+uint64(len(chain)))
			if ok && a.takes(x) {
				chain, used = append(chain, x), used+n
				continue next
			}
		}
		return chain, used
	}
}

// revoked: whether a record with a Seq greater than that revokes the block.
func revoked(chain []api.Txn, block int, seq uint64) bool {
	for _, x := range chain {
		for _, r := range x.Revokes {
			if r == block && x.Seq > seq {
				return true
			}
		}
	}
	return false
}

// home: the chain's way home.
func home(chain []api.Txn) []op {
	var ops []op
	for _, x := range chain {
		for _, w := range x.Writes {
			if !revoked(chain, w.Block, x.Seq) {
				ops = append(ops, op{w.Block, w.Data})
			}
		}
	}
	return ops
}

// plainRecover: what Recover does to a disk from which that is read, and its answer.
func plainRecover(image []byte, a span, seq uint64, place int) ([]op, int) {
	chain, used := plainChain(image, a, seq, place)
	behind := (place + used) % a.ring()
	head := plainHead(seq+uint64(len(chain))+uint64(a.length), uint32(behind))
	return append(home(chain), flush, op{a.placed(behind), make([]byte, 256)}, op{a.start, head}, flush), len(chain)
}

// noise: n bytes that look like any, and are the same each time.
func noise(n int, seed uint32) []byte {
	b := make([]byte, n)
	for i := range b {
		seed = seed*1664525 + 1013904223
		b[i] = byte(seed >> 24)
	}
	return b
}

// filled: a block of one byte.
func filled(c byte) []byte { return bytes.Repeat([]byte{c}, 256) }

// to: a Write of one byte over and over.
func to(block int, c byte) api.Write { return api.Write{Block: block, Data: filled(c)} }

// writing, revoking: a record without its Seq.
func writing(l ...api.Write) api.Txn { return api.Txn{Writes: l} }

func revoking(l ...int) api.Txn { return api.Txn{Revokes: l} }

// some: a record of n Writes and r Revokes of the area's free blocks; some data begin with the log's own mark.
func (a span) some(n, r int, seed uint32) api.Txn {
	var x api.Txn
	free := a.free()
	for i := range n {
		data := noise(256, seed+uint32(i))
		if (seed+uint32(i))%3 == 2 {
			copy(data, "ULOG")
		}
		x.Writes = append(x.Writes, api.Write{Block: free[i], Data: data})
	}
	x.Revokes = append(x.Revokes, free[n:n+r]...)
	return x
}

func newDisk(t *testing.T, blocks int) *disk.Disk {
	t.Helper()
	d, err := disk.New(blocks)
	if err != api.OK {
		t.Fatalf("New(%d): error %d", blocks, err)
	}
	return d
}

// headed: a disk with a head of that Seq and that place, all else being noise, or 0.
func headed(t *testing.T, a span, seq uint64, place int, noisy bool) *disk.Disk {
	t.Helper()
	image := make([]byte, 256*a.blocks)
	if noisy {
		image = noise(256*a.blocks, 77)
	}
	d, err := disk.Load(image)
	if err != api.OK {
		t.Fatalf("Load of %d blocks: error %d", a.blocks, err)
	}
	play(t, d, op{a.start, plainHead(seq, uint32(place))}, flush)
	return d
}

// encoded: a record's blocks.
func encoded(t *testing.T, x api.Txn) []byte {
	t.Helper()
	b, err := record.Encode(x)
	if err != api.OK {
		t.Fatalf("Encode: error %d", err)
	}
	return b
}

// lay: writes blocks into the ring from that place on; the place behind them.
func lay(t *testing.T, d *disk.Disk, a span, place int, b []byte) int {
	t.Helper()
	for k := range len(b) / 256 {
		play(t, d, op{a.placed(place), b[256*k : 256*k+256]})
		place = (place + 1) % a.ring()
	}
	return place
}

// layAll: writes records into the ring, with Seqs from that one on; what they are then, and the place behind them.
func layAll(t *testing.T, d *disk.Disk, a span, seq uint64, place int, records ...api.Txn) ([]api.Txn, int) {
	t.Helper()
	var l []api.Txn
	for i, x := range records {
		x.Seq = seq + uint64(i)
		place = lay(t, d, a, place, encoded(t, x))
		l = append(l, x)
	}
	return l, place
}

// sameRecord: whether two records are alike (lists that hold nothing being the same).
func sameRecord(x, y api.Txn) bool {
	if x.Seq != y.Seq || len(x.Writes) != len(y.Writes) || len(x.Revokes) != len(y.Revokes) {
		return false
	}
	for i, w := range x.Writes {
		if w.Block != y.Writes[i].Block || !bytes.Equal(w.Data, y.Writes[i].Data) {
			return false
		}
	}
	for i, r := range x.Revokes {
		if r != y.Revokes[i] {
			return false
		}
	}
	return true
}

func sameRecords(x, y []api.Txn) bool {
	if len(x) != len(y) {
		return false
	}
	for i := range x {
		if !sameRecord(x[i], y[i]) {
			return false
		}
	}
	return true
}

// seqs: the records' Seqs, to tell of them.
func seqs(l []api.Txn) []uint64 {
	var s []uint64
	for _, x := range l {
		s = append(s, x.Seq)
	}
	return s
}

// scanned: what Scan answers, where it has no error.
func scanned(t *testing.T, what string, d *disk.Disk, a span) []api.Txn {
	t.Helper()
	l, err := Scan(d, a.start, a.length)
	if err != api.OK {
		t.Fatalf("%s: Scan: error %d", what, err)
	}
	return l
}

func wantChain(t *testing.T, what string, d *disk.Disk, a span, want []api.Txn) {
	t.Helper()
	if l := scanned(t, what, d, a); !sameRecords(l, want) {
		t.Errorf("%s: Scan: records %v, want %v (or they hold other things)", what, seqs(l), seqs(want))
	}
}

func wantRecover(t *testing.T, what string, d *disk.Disk, a span, want int) {
	t.Helper()
	if n, err := Recover(d, a.start, a.length); n != want || err != api.OK {
		t.Errorf("%s: Recover: %d, error %d, want %d", what, n, err, want)
	}
}

// wantRefused: both calls have that error, and leave the disk as it is.
func wantRefused(t *testing.T, what string, d *disk.Disk, a span, want api.Errno) {
	t.Helper()
	ahead := d.Copy()
	if l, err := Scan(d, a.start, a.length); len(l) != 0 || err != want {
		t.Errorf("%s: %v: Scan: %d records, error %d, want error %d", what, a, len(l), err, want)
	}
	if n, err := Recover(d, a.start, a.length); n != 0 || err != want {
		t.Errorf("%s: %v: Recover: %d, error %d, want error %d", what, a, n, err, want)
	}
	if d.Size() > 0 {
		wantDisk(t, what, d, ahead)
	}
}

// wantDisk: whether d is as want in all that can be told of it: what is read, what is stable, each pending write, and whether the fuse is blown.
func wantDisk(t *testing.T, what string, d, want *disk.Disk) {
	t.Helper()
	if d.Pending() != want.Pending() {
		t.Errorf("%s: Pending %d, want %d", what, d.Pending(), want.Pending())
		return
	}
	if !bytes.Equal(d.Image(), want.Image()) {
		t.Errorf("%s: other bytes are read", what)
	}
	if !bytes.Equal(d.Stable(), want.Stable()) {
		t.Errorf("%s: other bytes are stable", what)
	}
	for k := range want.Pending() {
		one, two := d.Copy(), want.Copy()
		one.Crash(kept(k))
		two.Crash(kept(k))
		if !bytes.Equal(one.Stable(), two.Stable()) {
			t.Errorf("%s: pending write %d is another one", what, k)
		}
	}
	one, two := d.Copy(), want.Copy()
	one.Write(0, filled(0x77))
	two.Write(0, filled(0x77))
	if one.Pending() != two.Pending() {
		t.Errorf("%s: the fuse has another number of operations left", what)
	}
}

// wantOps: a call does just these operations to the disk, in this order: at whatever operation the fuse blows, the disk is as behind these.
func wantOps(t *testing.T, what string, d *disk.Disk, call func(*disk.Disk), ops []op) {
	t.Helper()
	for n := -1; n <= len(ops)+1; n++ {
		got, want := d.Copy(), d.Copy()
		got.Fuse(n)
		want.Fuse(n)
		call(got)
		play(t, want, ops...)
		wantDisk(t, what, got, want)
		if t.Failed() {
			t.Fatalf("%s: with a fuse of %d", what, n)
		}
	}
}

func wantRead(t *testing.T, d *disk.Disk, block int, want []byte) {
	t.Helper()
	if b, err := d.Read(block); err != api.OK || !bytes.Equal(b, want) {
		t.Errorf("Read(%d): error %d, %x.., want %x..", block, err, b[:min(len(b), 8)], want[:8])
	}
}

// kept: the bits of a crash that keeps all sectors of these pending writes, and no others.
func kept(writes ...int) []byte {
	var bits []byte
	for _, k := range writes {
		for len(bits) <= k/2 {
			bits = append(bits, 0)
		}
		bits[k/2] |= 0x0f << (4 * (k % 2))
	}
	return bits
}

// all: the bits of a crash that keeps all sectors.
func all(d *disk.Disk) []byte { return bytes.Repeat([]byte{0xff}, d.Pending()/2+1) }

// outside: what is read of all blocks outside of the area.
func outside(d *disk.Disk, a span) []byte {
	image := d.Image()
	return append(bytes.Clone(image[:256*a.start]), image[256*(a.start+a.length):]...)
}

func opened(t *testing.T, d *disk.Disk, a span) *log.Log {
	t.Helper()
	l, err := log.Open(d, a.start, a.length)
	if l == nil || err != api.OK {
		t.Fatalf("Open(%d, %d) of %d blocks: error %d", a.start, a.length, d.Size(), err)
	}
	return l
}

func formatted(t *testing.T, a span) *disk.Disk {
	t.Helper()
	d := newDisk(t, a.blocks)
	if err := log.Format(d, a.start, a.length); err != api.OK {
		t.Fatalf("Format(%d, %d) of %d blocks: error %d", a.start, a.length, a.blocks, err)
	}
	return d
}

// appended: appends records; what they are then.
func appended(t *testing.T, l *log.Log, records ...api.Txn) []api.Txn {
	t.Helper()
	var live []api.Txn
	for _, x := range records {
		seq, err := l.Append(x.Writes, x.Revokes)
		if err != api.OK {
			t.Fatalf("Append of %d Writes and %d Revokes: error %d", len(x.Writes), len(x.Revokes), err)
		}
		x.Seq = seq
		live = append(live, x)
	}
	return live
}
