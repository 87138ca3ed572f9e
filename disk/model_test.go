package disk

import (
	"bytes"
	"math/rand"
	"testing"

	"undercroft/api"
)

// A plain disk is the document's words, said as plainly as can be: lists that are gone through from their ends.
type plain struct {
	stable  [][]byte
	pending []plainWrite
	ghosts  []plainWrite
	fuse    int // -1: none
}

type plainWrite struct {
	block int
	data  []byte
}

func newPlain(blocks int) *plain {
	p := &plain{fuse: -1}
	for range blocks {
		p.stable = append(p.stable, make([]byte, 256))
	}
	return p
}

func plainBit(bits []byte, k int) bool {
	return k/8 < len(bits) && bits[k/8]&(1<<(k%8)) != 0
}

func (p *plain) read(i int) []byte {
	for _, l := range [][]plainWrite{p.ghosts, p.pending} {
		for k := len(l) - 1; k >= 0; k-- {
			if l[k].block == i {
				return l[k].data
			}
		}
	}
	return p.stable[i]
}

func (p *plain) write(i int, data []byte) api.Errno {
	if i < 0 || i >= len(p.stable) {
		return api.ErrDevice
	}
	if len(data) != 256 {
		return api.ErrArg
	}
	w := plainWrite{i, bytes.Clone(data)}
	if p.fuse == 0 {
		p.ghosts = append(p.ghosts, w)
		return api.OK
	}
	p.pending = append(p.pending, w)
	if p.fuse > 0 {
		p.fuse--
	}
	return api.OK
}

func (p *plain) flush() {
	if p.fuse == 0 {
		return
	}
	for _, w := range p.pending {
		copy(p.stable[w.block], w.data)
	}
	p.pending = nil
	if p.fuse > 0 {
		p.fuse--
	}
}

func (p *plain) settle(bits []byte) {
	if p.fuse == 0 {
		return
	}
	gone := make([]bool, len(p.pending))
	for k, w := range p.pending {
		if !plainBit(bits, k) {
			continue
		}
		copy(p.stable[w.block], w.data)
		for j := 0; j <= k; j++ {
			gone[j] = gone[j] || p.pending[j].block == w.block
		}
	}
	var rest []plainWrite
	for k, w := range p.pending {
		if !gone[k] {
			rest = append(rest, w)
		}
	}
	p.pending = rest
}

func (p *plain) crash(bits []byte) {
	for k, w := range p.pending {
		for s := range 4 {
			if plainBit(bits, 4*k+s) {
				copy(p.stable[w.block][64*s:64*s+64], w.data[64*s:])
			}
		}
	}
	p.pending, p.ghosts, p.fuse = nil, nil, -1
}

func (p *plain) setFuse(n int) {
	if p.fuse != 0 {
		p.fuse = max(n, -1)
	}
}

func (p *plain) copied() *plain {
	c := newPlain(len(p.stable))
	for i, b := range p.stable {
		copy(c.stable[i], b)
	}
	c.pending = append(c.pending, p.pending...)
	c.ghosts = append(c.ghosts, p.ghosts...)
	c.fuse = p.fuse
	return c
}

// same: whether all that is told of the disk is what the words say.
func (p *plain) same(t *testing.T, d *Disk) bool {
	t.Helper()
	if d.Size() != len(p.stable) || d.Pending() != len(p.pending) {
		t.Errorf("Size %d, Pending %d, want %d, %d", d.Size(), d.Pending(), len(p.stable), len(p.pending))
		return false
	}
	var image []byte
	for i := range p.stable {
		b, err := d.Read(i)
		if err != api.OK || !bytes.Equal(b, p.read(i)) {
			t.Errorf("Read(%d) isn't what was written last (error %d)", i, err)
			return false
		}
		image = append(image, b...)
	}
	if !bytes.Equal(d.Image(), image) {
		t.Error("Image isn't what is read")
		return false
	}
	if !bytes.Equal(d.Stable(), bytes.Join(p.stable, nil)) {
		t.Error("Stable isn't what became stable")
		return false
	}
	return true
}

// A pair is a disk and the plain one beside it, to which all is done alike.
type pair struct {
	d *Disk
	p *plain
}

func newPair(t *testing.T, blocks int) *pair {
	t.Helper()
	d, err := New(blocks)
	if d == nil || err != api.OK {
		t.Fatalf("New(%d): %v, error %d", blocks, d, err)
	}
	return &pair{d, newPlain(blocks)}
}

// anyBits: a list of bits that is empty, too short, long enough, or too long for n of them.
func anyBits(r *rand.Rand, n int) []byte {
	b := make([]byte, r.Intn(n/8+3))
	for i := range b {
		b[i] = byte(r.Intn(256))
	}
	return b
}

// step: some call, done to both; what it was.
func (x *pair) step(t *testing.T, r *rand.Rand) string {
	t.Helper()
	switch k := r.Intn(24); {
	case k < 12:
		i := r.Intn(len(x.p.stable)+2) - 1
		data := make([]byte, 256)
		if r.Intn(12) == 0 {
			data = data[:r.Intn(256)]
		}
		r.Read(data)
		if got, want := x.d.Write(i, data), x.p.write(i, data); got != want {
			t.Errorf("Write(%d, %d bytes): error %d, want %d", i, len(data), got, want)
		}
		return "write"
	case k < 14:
		x.d.Flush()
		x.p.flush()
		return "flush"
	case k < 18:
		bits := anyBits(r, len(x.p.pending))
		x.d.Settle(bits)
		x.p.settle(bits)
		return "settle"
	case k < 20:
		bits := anyBits(r, 4*len(x.p.pending))
		x.d.Crash(bits)
		x.p.crash(bits)
		return "crash"
	case k < 22:
		n := r.Intn(8) - 1
		x.d.Fuse(n)
		x.p.setFuse(n)
		return "fuse"
	}
	x.d, x.p = x.d.Copy(), x.p.copied()
	return "copy"
}

// P2.1: every call in any order.

func TestAnyOrderOfCalls(t *testing.T) {
	for seed := range int64(400) {
		r := rand.New(rand.NewSource(seed))
		x := newPair(t, 1+r.Intn(6))
		var left []*pair
		for n := range 60 {
			was := x
			if r.Intn(15) == 0 { // the one that a copy was made of goes on beside it
				was = &pair{x.d, x.p}
				x = &pair{x.d.Copy(), x.p.copied()}
				left = append(left, was)
			}
			what := x.step(t, r)
			if !x.p.same(t, x.d) {
				t.Fatalf("seed %d, step %d, behind %s", seed, n, what)
			}
			for _, l := range left {
				if r.Intn(3) == 0 {
					what = l.step(t, r)
				}
				if !l.p.same(t, l.d) {
					t.Fatalf("seed %d, step %d, a disk beside, behind %s", seed, n, what)
				}
			}
		}
	}
}
