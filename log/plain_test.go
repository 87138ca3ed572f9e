package log

import (
	"bytes"
	"encoding/binary"
	"hash/crc32"
	"testing"

	"undercroft/api"
	"undercroft/disk"
	"undercroft/record"
)

// The document's words, said as plainly as can be: a plain log has no disk, and tells what each call does to one.

// An op is one operation on a disk: a Write, or a Flush (data nil).
type op struct {
	block int
	data  []byte
}

var flush = op{}

// play: does these operations.
func play(t *testing.T, d *disk.Disk, ops []op) {
	t.Helper()
	for _, o := range ops {
		if o.data == nil {
			d.Flush()
		} else if err := d.Write(o.block, o.data); err != api.OK {
			t.Fatalf("Write(%d): error %d", o.block, err)
		}
	}
}

// sealed: a block of these first 20 bytes, their sum, and 0.
func sealed(first []byte) []byte {
	b := make([]byte, 256)
	copy(b, first)
	binary.LittleEndian.PutUint32(b[20:], crc32.Checksum(b[:20], crc32.MakeTable(crc32.Castagnoli)))
	return b
}

func plainHead(seq uint64, place uint32) []byte {
	b := []byte{'U', 'L', 'O', 'G', 3, 0, 0, 0}
	b = binary.LittleEndian.AppendUint64(b, seq)
	return sealed(binary.LittleEndian.AppendUint32(b, place))
}

type plain struct {
	size, start, length int // blocks of the disk, and the area
	seq                 uint64
	place               int
	live                []api.Txn
}

// placed: the disk's block of a place.
func (p *plain) placed(place int) int { return p.start + 1 + place%(p.length-1) }

func (p *plain) room() int {
	n := p.length - 1
	for _, x := range p.live {
		n -= len(x.Writes) + 2
	}
	return n
}

// outside: the number of one of the disk's blocks that isn't in the area.
func (p *plain) outside(block int) bool {
	for i := range p.size {
		if i == block {
			return i < p.start || i > p.start+p.length-1
		}
	}
	return false
}

// outside: all of the disk's blocks that aren't in the area.
func outside(p *plain) []int {
	var l []int
	for i := range p.size {
		if p.outside(i) {
			l = append(l, i)
		}
	}
	return l
}

func (p *plain) append(writes []api.Write, revokes []int) (uint64, api.Errno, []op) {
	x := copied(api.Txn{Seq: p.seq, Writes: writes, Revokes: revokes})
	blocks, err := record.Encode(x)
	if err != api.OK {
		return 0, api.ErrLog, nil
	}
	for _, w := range x.Writes {
		if !p.outside(w.Block) {
			return 0, api.ErrLog, nil
		}
	}
	for _, block := range x.Revokes {
		if !p.outside(block) {
			return 0, api.ErrLog, nil
		}
	}
	if len(writes)+2 > p.room() {
		return 0, api.ErrSpace, nil
	}
	var ops []op
	for k := range len(writes) + 2 {
		ops = append(ops, op{p.placed(p.place + k), blocks[256*k : 256*k+256]})
	}
	p.live = append(p.live, x)
	p.seq++
	p.place = (p.place + len(ops)) % (p.length - 1)
	return x.Seq, api.OK, ops
}

func (p *plain) home() []op {
	if len(p.live) == 0 {
		return nil
	}
	ops := []op{flush}
	for _, x := range p.live {
		for _, w := range x.Writes {
			if !p.revoked(w.Block, x.Seq) {
				ops = append(ops, op{w.Block, w.Data})
			}
		}
	}
	p.live = nil
	return append(ops, flush, op{p.start, plainHead(p.seq, uint32(p.place))}, flush)
}

// revoked: whether a live record with a Seq greater than that revokes the block.
func (p *plain) revoked(block int, seq uint64) bool {
	for _, x := range p.live {
		for _, r := range x.Revokes {
			if r == block && x.Seq > seq {
				return true
			}
		}
	}
	return false
}

// copied: a record that shares no memory with x.
func copied(x api.Txn) api.Txn {
	y := api.Txn{Seq: x.Seq, Revokes: append([]int{}, x.Revokes...)}
	for _, w := range x.Writes {
		y.Writes = append(y.Writes, api.Write{Block: w.Block, Data: bytes.Clone(w.Data)})
	}
	return y
}

// noise: n bytes that look like any, and are the same each time.
func noise(n int, seed uint32) []byte {
	b := make([]byte, n)
	for i := range b {
		seed = seed*1664525 + 1013904223
		b[i] = byte(seed >> 24)
	}
	return b
}

// filled: a block of one byte.
func filled(c byte) []byte { return bytes.Repeat([]byte{c}, 256) }

// to: a Write of one byte over and over.
func to(block int, c byte) api.Write { return api.Write{Block: block, Data: filled(c)} }

// someWrites: n Writes of blocks from that one on; some begin with the log's own mark.
func someWrites(first, n int, seed uint32) []api.Write {
	var l []api.Write
	for i := range n {
		data := noise(256, seed+uint32(i))
		if (seed+uint32(i))%3 == 2 {
			copy(data, "ULOG")
		}
		l = append(l, api.Write{Block: first + i, Data: data})
	}
	return l
}

func newDisk(t *testing.T, blocks int) *disk.Disk {
	t.Helper()
	d, err := disk.New(blocks)
	if err != api.OK {
		t.Fatalf("New(%d): error %d", blocks, err)
	}
	return d
}

// wantDisk: whether d is as want in all that can be told of it: what is read, what is stable, each pending write, and whether the fuse is blown.
func wantDisk(t *testing.T, what string, d, want *disk.Disk) {
	t.Helper()
	if d.Pending() != want.Pending() {
		t.Errorf("%s: Pending %d, want %d", what, d.Pending(), want.Pending())
		return
	}
	if !bytes.Equal(d.Image(), want.Image()) {
		t.Errorf("%s: other bytes are read", what)
	}
	if !bytes.Equal(d.Stable(), want.Stable()) {
		t.Errorf("%s: other bytes are stable", what)
	}
	for k := range want.Pending() {
		bits := make([]byte, k/2+1)
		bits[k/2] = 0x0f << (4 * (k % 2)) // all sectors of pending write k
		one, two := d.Copy(), want.Copy()
		one.Crash(bits)
		two.Crash(bits)
		if !bytes.Equal(one.Stable(), two.Stable()) {
			t.Errorf("%s: pending write %d is another one", what, k)
		}
	}
	one, two := d.Copy(), want.Copy()
	one.Write(0, filled(0x77))
	two.Write(0, filled(0x77))
	if one.Pending() != two.Pending() {
		t.Errorf("%s: the fuse has another number of operations left", what)
	}
}

// wantOps: a call does just these operations to the disk, in this order: at whatever operation the fuse blows, the disk is as behind these. begin tells a disk and a log, the same each time.
func wantOps(t *testing.T, what string, begin func() (*disk.Disk, *Log), call func(*disk.Disk, *Log), ops []op) {
	t.Helper()
	for n := -1; n <= len(ops)+1; n++ {
		d, l := begin()
		want := d.Copy()
		d.Fuse(n)
		want.Fuse(n)
		call(d, l)
		play(t, want, ops)
		wantDisk(t, what, d, want)
		if t.Failed() {
			t.Fatalf("%s: with a fuse of %d", what, n)
		}
	}
}

// formatted: a disk with an empty log on it.
func formatted(t *testing.T, blocks, start, length int) *disk.Disk {
	t.Helper()
	d := newDisk(t, blocks)
	if err := Format(d, start, length); err != api.OK {
		t.Fatalf("Format(%d, %d) of %d blocks: error %d", start, length, blocks, err)
	}
	return d
}

func opened(t *testing.T, d *disk.Disk, start, length int) *Log {
	t.Helper()
	l, err := Open(d, start, length)
	if l == nil || err != api.OK {
		t.Fatalf("Open(%d, %d) of %d blocks: error %d", start, length, d.Size(), err)
	}
	return l
}

// at: a disk with a head of that Seq and that place, and a log at it.
func at(t *testing.T, blocks, start, length int, seq uint64, place int) (*disk.Disk, *Log) {
	t.Helper()
	d := newDisk(t, blocks)
	play(t, d, []op{{start, plainHead(seq, uint32(place))}, flush})
	return d, opened(t, d, start, length)
}

func wantAppend(t *testing.T, l *Log, writes []api.Write, revokes []int, seq uint64) {
	t.Helper()
	if got, err := l.Append(writes, revokes); got != seq || err != api.OK {
		t.Fatalf("Append of %d Writes and %d Revokes: Seq %d, error %d, want %d", len(writes), len(revokes), got, err, seq)
	}
}

// wantRefused: an Append with that error, behind which log and disk are as ahead.
func wantRefused(t *testing.T, what string, d *disk.Disk, l *Log, writes []api.Write, revokes []int, want api.Errno) {
	t.Helper()
	ahead, room := d.Copy(), l.Room()
	seq, place := l.Next()
	if got, err := l.Append(writes, revokes); got != 0 || err != want {
		t.Errorf("%s: Append: Seq %d, error %d, want error %d", what, got, err, want)
	}
	wantDisk(t, what, d, ahead)
	wantState(t, what, l, room, seq, place)
}

// wantState: what the log tells of itself.
func wantState(t *testing.T, what string, l *Log, room int, seq uint64, place int) {
	t.Helper()
	s, p := l.Next()
	if l.Room() != room || s != seq || p != place {
		t.Errorf("%s: Room %d, Next %d, %d, want Room %d, Next %d, %d", what, l.Room(), s, p, room, seq, place)
	}
}

func wantRead(t *testing.T, d *disk.Disk, block int, want []byte) {
	t.Helper()
	if b, err := d.Read(block); err != api.OK || !bytes.Equal(b, want) {
		t.Errorf("Read(%d): error %d, %x.., want %x..", block, err, b[:min(len(b), 8)], want[:8])
	}
}
