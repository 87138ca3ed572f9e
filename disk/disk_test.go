package disk

import (
	"bytes"
	"math"
	"testing"

	"undercroft/api"
)

// filled: a block of one byte.
func filled(c byte) []byte { return bytes.Repeat([]byte{c}, 256) }

// made4: a block of four sectors, each of one byte.
func made4(a, b, c, d byte) []byte {
	var l []byte
	for _, x := range []byte{a, b, c, d} {
		l = append(l, bytes.Repeat([]byte{x}, 64)...)
	}
	return l
}

func newDisk(t *testing.T, blocks int) *Disk {
	t.Helper()
	d, err := New(blocks)
	if d == nil || err != api.OK {
		t.Fatalf("New(%d): error %d", blocks, err)
	}
	return d
}

func wantWrite(t *testing.T, d *Disk, i int, data []byte) {
	t.Helper()
	if err := d.Write(i, data); err != api.OK {
		t.Fatalf("Write(%d): error %d", i, err)
	}
}

func wantRead(t *testing.T, d *Disk, i int, want []byte) {
	t.Helper()
	if b, err := d.Read(i); err != api.OK || !bytes.Equal(b, want) {
		t.Errorf("Read(%d): error %d, bytes %d, want %d", i, err, b, want)
	}
}

func wantStable(t *testing.T, d *Disk, blocks ...[]byte) {
	t.Helper()
	if got := d.Stable(); !bytes.Equal(got, bytes.Join(blocks, nil)) {
		t.Errorf("Stable has %d bytes that aren't those wanted", len(got))
	}
}

func wantPending(t *testing.T, d *Disk, n int) {
	t.Helper()
	if d.Pending() != n {
		t.Errorf("Pending %d, want %d", d.Pending(), n)
	}
}

// P2.1: what the calls answer.

func TestNewOfSoManyBlocks(t *testing.T) {
	for _, n := range []int{1, 2, 127, 128, 1023, 1024} {
		d := newDisk(t, n)
		if d.Size() != n || d.Pending() != 0 {
			t.Errorf("New(%d): Size %d, Pending %d", n, d.Size(), d.Pending())
		}
		if !bytes.Equal(d.Image(), make([]byte, 256*n)) || !bytes.Equal(d.Stable(), make([]byte, 256*n)) {
			t.Errorf("New(%d): bytes that aren't 0", n)
		}
	}
	for _, n := range []int{0, 1025, -1, 1 << 40, math.MaxInt, math.MinInt} {
		if d, err := New(n); d != nil || err != api.ErrArg {
			t.Errorf("New(%d): %v, error %d, want ErrArg", n, d, err)
		}
	}
}

func TestLoadOfImages(t *testing.T) {
	for _, n := range []int{1, 2, 3, 1023, 1024} {
		image := make([]byte, 256*n)
		for i := range image {
			image[i] = byte(i*7 + i/256)
		}
		d, err := Load(image)
		if err != api.OK || d.Size() != n || d.Pending() != 0 {
			t.Fatalf("Load of %d blocks: error %d", n, err)
		}
		if !bytes.Equal(d.Image(), image) || !bytes.Equal(d.Stable(), image) {
			t.Errorf("Load of %d blocks: other bytes", n)
		}
		wantRead(t, d, n-1, image[256*n-256:])
		d.Crash(nil)
		wantStable(t, d, image)
	}
	for _, n := range []int{0, 1, 255, 257, 511, 256*1024 - 1, 256*1024 + 1, 256 * 1025} {
		if d, err := Load(make([]byte, n)); d != nil || err != api.ErrArg {
			t.Errorf("Load of %d bytes: %v, error %d, want ErrArg", n, d, err)
		}
	}
	if d, err := Load(nil); d != nil || err != api.ErrArg {
		t.Error("Load(nil) isn't refused")
	}
}

func TestReadAndWriteErrors(t *testing.T) {
	d := newDisk(t, 2)
	for _, i := range []int{-1, 2, 3, 1024, math.MaxInt, math.MinInt} {
		if b, err := d.Read(i); len(b) != 0 || err != api.ErrDevice {
			t.Errorf("Read(%d): %d bytes, error %d, want ErrDevice", i, len(b), err)
		}
		for _, n := range []int{0, 255, 256, 257} { // ErrDevice comes ahead of ErrArg
			if err := d.Write(i, make([]byte, n)); err != api.ErrDevice {
				t.Errorf("Write(%d) of %d bytes: error %d, want ErrDevice", i, n, err)
			}
		}
	}
	for _, n := range []int{0, 1, 64, 255, 257, 512} {
		if err := d.Write(1, bytes.Repeat([]byte{1}, n)); err != api.ErrArg {
			t.Errorf("Write of %d bytes: error %d, want ErrArg", n, err)
		}
	}
	if err := d.Write(0, nil); err != api.ErrArg {
		t.Errorf("Write of nil: error %d, want ErrArg", err)
	}
	wantPending(t, d, 0)
	if !bytes.Equal(d.Image(), make([]byte, 512)) {
		t.Error("a write with an error wrote")
	}
	wantWrite(t, d, 0, filled(1))
	wantWrite(t, d, 1, filled(2))
	wantRead(t, d, 0, filled(1))
	wantRead(t, d, 1, filled(2))
}

func TestPendingCounts(t *testing.T) {
	d := newDisk(t, 3)
	for n := range 5 {
		wantPending(t, d, n)
		wantWrite(t, d, n%2, filled(byte(n)))
	}
	d.Flush()
	wantPending(t, d, 0)
	wantWrite(t, d, 0, filled(9))
	d.Crash(nil)
	wantPending(t, d, 0)
}

func TestExample(t *testing.T) {
	d := newDisk(t, 2)
	wantWrite(t, d, 0, filled(1))
	d.Crash([]byte{0x02})
	wantRead(t, d, 0, made4(0, 1, 0, 0))
	wantRead(t, d, 1, filled(0))
}

// P2.1: settling.

// settled: a disk of two blocks with five pending writes (to 0, 1, 0, 0, 1), settled by bits.
func settled(t *testing.T, bits []byte) *Disk {
	t.Helper()
	d := newDisk(t, 2)
	for k, i := range []int{0, 1, 0, 0, 1} {
		wantWrite(t, d, i, filled(byte(k+1)))
	}
	d.Settle(bits)
	return d
}

func TestSettleByBits(t *testing.T) {
	for _, c := range []struct {
		bits         []byte
		zero, one    byte // what is stable of the blocks
		pending      int
		later, other byte // and behind a crash that keeps the first pending write
	}{
		{nil, 0, 0, 5, 1, 0},
		{[]byte{}, 0, 0, 5, 1, 0},
		{[]byte{0x00, 0xff}, 0, 0, 5, 1, 0}, // the bits of writes that aren't there
		{[]byte{0xe0}, 0, 0, 5, 1, 0},
		{[]byte{0x01}, 1, 0, 4, 1, 2}, // pending: 2 3 4 5
		{[]byte{0x02}, 0, 2, 4, 1, 2}, // 1 3 4 5
		{[]byte{0x04}, 3, 0, 3, 3, 2}, // 2 4 5: the first one to its block is no more
		{[]byte{0x08}, 4, 0, 2, 4, 2}, // 2 5
		{[]byte{0x05}, 3, 0, 3, 3, 2},
		{[]byte{0x10}, 0, 5, 3, 1, 5}, // 1 3 4
		{[]byte{0x09}, 4, 0, 2, 4, 2},
		{[]byte{0x18}, 4, 5, 0, 4, 5},
		{[]byte{0x1f}, 4, 5, 0, 4, 5},
		{[]byte{0xff, 0xff, 0xff}, 4, 5, 0, 4, 5},
	} {
		d := settled(t, c.bits)
		wantPending(t, d, c.pending)
		wantStable(t, d, filled(c.zero), filled(c.one))
		wantRead(t, d, 0, filled(4))
		wantRead(t, d, 1, filled(5))
		d.Crash([]byte{0x0f})
		wantStable(t, d, filled(c.later), filled(c.other))
		if t.Failed() {
			t.Fatalf("bits %x", c.bits)
		}
	}
}

func TestSettleShortBits(t *testing.T) {
	d := newDisk(t, 20)
	for i := range 20 {
		wantWrite(t, d, i, filled(byte(i+1)))
	}
	d.Settle([]byte{0x81, 0x80}) // of 20 writes the bits of 16: 0, 7 and 15
	wantPending(t, d, 17)
	for i := range 20 {
		want := byte(0)
		if i == 0 || i == 7 || i == 15 {
			want = byte(i + 1)
		}
		if d.Stable()[256*i] != want {
			t.Errorf("block %d: stable %d, want %d", i, d.Stable()[256*i], want)
		}
	}
	d.Settle([]byte{0x01}) // places are counted anew: block 1
	wantPending(t, d, 16)
	if d.Stable()[256] != 2 {
		t.Error("the first one that is pending now isn't number 0")
	}
}

func TestWritesBehindSettle(t *testing.T) {
	d := settled(t, []byte{0x04}) // pending: 2 4 5
	wantWrite(t, d, 0, filled(6))
	wantPending(t, d, 4)
	wantRead(t, d, 0, filled(6))
	d.Flush()
	wantStable(t, d, filled(6), filled(5))
}

// P2.1: the fuse and the ghosts.

func TestFuseBurns(t *testing.T) {
	for n := range 5 {
		d := newDisk(t, 8)
		d.Fuse(n)
		for i := range 6 {
			wantWrite(t, d, i, filled(byte(i+1)))
			wantPending(t, d, min(i+1, n))
			wantRead(t, d, i, filled(byte(i+1)))
		}
		d.Flush() // blown: nothing
		wantPending(t, d, n)
		wantStable(t, d, make([]byte, 8*256))
		d.Crash(bytes.Repeat([]byte{0xff}, 4))
		for i := range 6 {
			want := byte(0)
			if i < n {
				want = byte(i + 1)
			}
			wantRead(t, d, i, filled(want))
		}
		wantWrite(t, d, 7, filled(7)) // no fuse is set any more
		wantPending(t, d, 1)
		d.Flush()
		wantPending(t, d, 0)
	}
}

func TestFlushBurnsOne(t *testing.T) {
	d := newDisk(t, 2)
	d.Fuse(2)
	d.Flush() // of nothing, but an operation
	wantWrite(t, d, 0, filled(1))
	wantPending(t, d, 1)
	wantWrite(t, d, 0, filled(2))
	wantPending(t, d, 1)

	d = newDisk(t, 2)
	d.Fuse(2)
	wantWrite(t, d, 0, filled(1))
	d.Flush() // the last one that is left
	wantPending(t, d, 0)
	wantStable(t, d, filled(1), filled(0))
	wantWrite(t, d, 1, filled(3))
	wantPending(t, d, 0)
	wantRead(t, d, 1, filled(3))
}

func TestWhatBurnsNothing(t *testing.T) {
	d := newDisk(t, 2)
	wantWrite(t, d, 0, filled(9))
	d.Fuse(1)
	d.Write(2, filled(1))
	d.Write(-1, filled(1))
	d.Write(0, filled(1)[:255])
	d.Settle([]byte{0x01})
	d.Settle(nil)
	d.Read(0)
	d.Read(5)
	d.Copy().Flush()
	d.Size()
	d.Pending()
	d.Image()
	d.Stable()
	wantStable(t, d, filled(9), filled(0))
	wantWrite(t, d, 0, filled(2))
	wantPending(t, d, 1)
	wantWrite(t, d, 0, filled(3))
	wantPending(t, d, 1)
	for _, err := range []api.Errno{d.Write(2, filled(1)), d.Write(1, nil)} { // errors are told when it is blown, too
		if err == api.OK {
			t.Error("a ghost of no block, or of no data")
		}
	}
}

func TestFuseSetAgain(t *testing.T) {
	burns := func(d *Disk, want int) {
		t.Helper()
		for range 10 {
			wantWrite(t, d, 0, filled(1))
		}
		wantPending(t, d, want)
	}
	d := newDisk(t, 1)
	d.Fuse(2)
	d.Fuse(5) // another one, while it runs
	burns(d, 5)
	d.Fuse(3) // blown: it stays so
	d.Fuse(-1)
	burns(d, 5)

	d = newDisk(t, 1)
	d.Fuse(5)
	wantWrite(t, d, 0, filled(1))
	d.Fuse(1)
	burns(d, 2)

	d = newDisk(t, 1)
	d.Fuse(1)
	d.Fuse(-1)
	burns(d, 10)
	d.Fuse(0)
	burns(d, 10)

	d = newDisk(t, 1)
	for _, n := range []int{-1, math.MinInt, math.MaxInt} {
		d.Fuse(n)
	}
	burns(d, 10)

	d = newDisk(t, 1)
	d.Fuse(3)
	d.Crash(nil) // one that runs is set no more, too
	burns(d, 10)

	d = newDisk(t, 1)
	d.Fuse(0)
	d.Crash(nil)
	d.Fuse(2)
	burns(d, 2)
}

// haunted: two blocks, of which 0 has a pending 1, ghosts 2 and 3; and 1 has a ghost 4. (5 is stable of both.)
func haunted(t *testing.T) *Disk {
	t.Helper()
	d, err := Load(bytes.Repeat([]byte{5}, 512))
	if err != api.OK {
		t.Fatal(err)
	}
	d.Fuse(1)
	wantWrite(t, d, 0, filled(1))
	wantWrite(t, d, 0, filled(2))
	wantWrite(t, d, 1, filled(4))
	wantWrite(t, d, 0, filled(3))
	return d
}

func wantHaunted(t *testing.T, d *Disk) {
	t.Helper()
	wantPending(t, d, 1)
	wantRead(t, d, 0, filled(3))
	wantRead(t, d, 1, filled(4))
	if !bytes.Equal(d.Image(), append(filled(3), filled(4)...)) {
		t.Error("Image isn't what is read")
	}
	wantStable(t, d, filled(5), filled(5))
}

func TestGhosts(t *testing.T) {
	d := haunted(t)
	wantHaunted(t, d)
	d.Flush()
	wantHaunted(t, d)
	d.Settle([]byte{0xff})
	wantHaunted(t, d)
	d.Fuse(7)
	d.Flush()
	wantHaunted(t, d)
	c := d.Copy()
	wantHaunted(t, c)
	c.Flush() // the copy's fuse is blown too
	wantHaunted(t, c)
	wantWrite(t, c, 1, filled(6)) // a ghost of the copy alone
	wantRead(t, c, 1, filled(6))
	wantHaunted(t, d)
	d.Crash([]byte{0xff, 0xff}) // of the pending one all sectors, and nothing of the ghosts
	wantRead(t, d, 0, filled(1))
	wantRead(t, d, 1, filled(5))
	wantRead(t, c, 1, filled(6))
	c.Crash(nil)
	wantRead(t, c, 0, filled(5))
	wantRead(t, c, 1, filled(5))
	wantPending(t, c, 0)
}

func TestManyGhostsOverEachOther(t *testing.T) {
	d := newDisk(t, 3)
	d.Fuse(0)
	for k := range 3000 {
		wantWrite(t, d, k%3, filled(byte(k)))
		wantRead(t, d, k%3, filled(byte(k)))
	}
	wantPending(t, d, 0)
	d.Crash(bytes.Repeat([]byte{0xff}, 2000))
	wantStable(t, d, make([]byte, 3*256))
}

// P2.2: what was written is read.

func TestReadWhatWasWritten(t *testing.T) {
	d := newDisk(t, 4)
	wantWrite(t, d, 2, filled(1))
	wantRead(t, d, 2, filled(1))
	wantWrite(t, d, 3, filled(8))
	wantRead(t, d, 2, filled(1))
	wantWrite(t, d, 2, filled(2))
	wantRead(t, d, 2, filled(2))
	d.Settle([]byte{0x01})
	wantRead(t, d, 2, filled(2))
	d.Settle([]byte{0x02})
	wantRead(t, d, 2, filled(2))
	d.Flush()
	wantRead(t, d, 2, filled(2))
	wantRead(t, d, 3, filled(8))
	wantRead(t, d, 0, filled(0))
	if !bytes.Equal(d.Image(), bytes.Join([][]byte{filled(0), filled(0), filled(2), filled(8)}, nil)) {
		t.Error("Image")
	}
}

func TestFlushStaysThroughAnyCrash(t *testing.T) {
	for bits := range 256 {
		d := newDisk(t, 2)
		wantWrite(t, d, 0, filled(1))
		wantWrite(t, d, 1, filled(3))
		wantWrite(t, d, 0, filled(2))
		d.Flush()
		wantStable(t, d, filled(2), filled(3)) // the last one of a block counts
		d.Crash([]byte{byte(bits), byte(bits)})
		wantStable(t, d, filled(2), filled(3))
		wantRead(t, d, 0, filled(2))
		wantRead(t, d, 1, filled(3))
	}
}

func TestSettleChangesNothingRead(t *testing.T) {
	for bits := range 32 {
		d := settled(t, []byte{byte(bits)})
		wantRead(t, d, 0, filled(4))
		wantRead(t, d, 1, filled(5))
		d.Settle([]byte{byte(bits >> 1)})
		if !bytes.Equal(d.Image(), append(filled(4), filled(5)...)) {
			t.Errorf("bits %05b: Image", bits)
		}
	}
}

// P2.3: tears.

func TestTearsOfOneWrite(t *testing.T) {
	for bits := range 16 {
		d, err := Load(made4(10, 20, 30, 40))
		if err != api.OK {
			t.Fatal(err)
		}
		wantWrite(t, d, 0, made4(1, 2, 3, 4))
		d.Crash([]byte{byte(bits)})
		want := []byte{10, 20, 30, 40}
		for s := range want {
			if bits>>s&1 == 1 {
				want[s] = byte(s + 1)
			}
		}
		wantStable(t, d, made4(want[0], want[1], want[2], want[3]))
		wantRead(t, d, 0, made4(want[0], want[1], want[2], want[3]))
	}
}

func TestTearsOfThreeWrites(t *testing.T) {
	for bits := range 1 << 12 {
		d, err := Load(append(filled(90), filled(91)...))
		if err != api.OK {
			t.Fatal(err)
		}
		for k, i := range []int{1, 0, 1} {
			wantWrite(t, d, i, made4(byte(10*k+1), byte(10*k+2), byte(10*k+3), byte(10*k+4)))
		}
		d.Crash([]byte{byte(bits), byte(bits >> 8)})
		zero, one := []byte{90, 90, 90, 90}, []byte{91, 91, 91, 91}
		for s := range 4 {
			if bits>>s&1 == 1 {
				one[s] = byte(s + 1)
			}
			if bits>>(4+s)&1 == 1 {
				zero[s] = byte(11 + s)
			}
			if bits>>(8+s)&1 == 1 {
				one[s] = byte(21 + s)
			}
		}
		if got := d.Stable(); !bytes.Equal(got, append(made4(zero[0], zero[1], zero[2], zero[3]), made4(one[0], one[1], one[2], one[3])...)) {
			t.Fatalf("bits %012b", bits)
		}
	}
}

func TestCrashShortAndLongBits(t *testing.T) {
	for n := range 8 {
		d := newDisk(t, 5)
		for i := range 5 {
			wantWrite(t, d, i, filled(byte(i+1)))
		}
		d.Crash(bytes.Repeat([]byte{0xff}, n)) // two writes a byte
		wantPending(t, d, 0)
		for i := range 5 {
			want := byte(0)
			if i < 2*n {
				want = byte(i + 1)
			}
			wantRead(t, d, i, filled(want))
		}
	}
	d := newDisk(t, 1)
	wantWrite(t, d, 0, filled(1))
	d.Crash([]byte{})
	wantRead(t, d, 0, filled(0))
	d.Crash([]byte{0xff}) // nothing is pending
	wantRead(t, d, 0, filled(0))
}

func TestCrashOfAllBitsIsFlush(t *testing.T) {
	a := newDisk(t, 3)
	for k := range 9 {
		wantWrite(t, a, k*k%3, made4(byte(k), byte(k+20), byte(k+40), byte(k+60)))
	}
	b := a.Copy()
	a.Flush()
	b.Crash(bytes.Repeat([]byte{0xff}, 5))
	if !bytes.Equal(a.Stable(), b.Stable()) || !bytes.Equal(a.Image(), b.Image()) || a.Pending() != b.Pending() {
		t.Error("a crash with all bits isn't a flush")
	}
}

// P2.4: nothing is changed or kept, and an answer is new memory.

func TestNothingHandedInIsChangedOrKept(t *testing.T) {
	room := bytes.Repeat([]byte{7}, 1024)
	d, err := Load(room[:512])
	if err != api.OK {
		t.Fatal(err)
	}
	wantWrite(t, d, 0, room[256:512])
	d.Settle(room[:1])
	d.Crash(room[:1])
	d.Fuse(0)
	wantWrite(t, d, 1, room[:256])
	if !bytes.Equal(room, bytes.Repeat([]byte{7}, 1024)) {
		t.Fatal("what was handed in was changed")
	}

	image, data := filled(1), filled(2)
	d, err = Load(image)
	if err != api.OK {
		t.Fatal(err)
	}
	clear(image)
	wantRead(t, d, 0, filled(1))
	wantWrite(t, d, 0, data)
	clear(data)
	wantRead(t, d, 0, filled(2))
	d.Fuse(0)
	ghost := filled(3)
	wantWrite(t, d, 0, ghost)
	clear(ghost)
	wantRead(t, d, 0, filled(3))
	ghost = filled(4)
	wantWrite(t, d, 0, ghost)
	clear(ghost)
	wantRead(t, d, 0, filled(4))
}

func TestAnswersAreNewMemory(t *testing.T) {
	d, err := Load(append(filled(1), filled(2)...))
	if err != api.OK {
		t.Fatal(err)
	}
	wantWrite(t, d, 0, filled(3))
	spoil := func(b []byte) {
		b = b[:cap(b)]
		for i := range b {
			b[i] = 99
		}
	}
	for range 2 {
		for i := range 2 {
			b, _ := d.Read(i)
			spoil(b)
		}
		spoil(d.Image())
		spoil(d.Stable())
		wantRead(t, d, 0, filled(3))
		wantRead(t, d, 1, filled(2))
		wantStable(t, d, filled(1), filled(2))
		if !bytes.Equal(d.Image(), append(filled(3), filled(2)...)) {
			t.Error("Image is shared")
		}
		d.Fuse(0)
	}
}

func TestCopyGoesOnBeside(t *testing.T) {
	d := newDisk(t, 2)
	wantWrite(t, d, 0, filled(1))
	d.Fuse(3)
	c := d.Copy()
	wantWrite(t, d, 0, filled(2))
	wantWrite(t, d, 1, filled(3))
	wantPending(t, c, 1)
	wantRead(t, c, 0, filled(1))
	wantRead(t, c, 1, filled(0))
	wantWrite(t, c, 1, filled(4))
	wantRead(t, d, 1, filled(3))
	c.Flush()
	wantStable(t, d, filled(0), filled(0))
	wantStable(t, c, filled(1), filled(4))
	d.Flush() // the third operation of d's fuse
	wantStable(t, d, filled(2), filled(3))
	wantWrite(t, d, 0, filled(5))
	wantPending(t, d, 0)
	wantWrite(t, c, 0, filled(6)) // and of the copy's
	wantPending(t, c, 1)
	wantWrite(t, c, 0, filled(7))
	wantPending(t, c, 1)
	c.Crash([]byte{0x0f})
	wantStable(t, c, filled(6), filled(4))
	wantRead(t, d, 0, filled(5))

	d = settled(t, nil)
	c = d.Copy()
	d.Settle([]byte{0x1f})
	wantPending(t, d, 0)
	wantPending(t, c, 5)
	c.Crash([]byte{0x0f})
	wantStable(t, c, filled(1), filled(0))
	wantStable(t, d, filled(4), filled(5))
}

// Disks that weren't made.

func TestNilDisk(t *testing.T) {
	var d *Disk
	for range 2 {
		if d.Size() != 0 || d.Pending() != 0 || len(d.Image()) != 0 || len(d.Stable()) != 0 || d.Copy() != nil {
			t.Error("a nil disk has something")
		}
		for _, i := range []int{-1, 0, 1} {
			if b, err := d.Read(i); len(b) != 0 || err != api.ErrDevice {
				t.Errorf("Read(%d) of nil: error %d", i, err)
			}
			if err := d.Write(i, filled(1)); err != api.ErrDevice {
				t.Errorf("Write(%d) to nil: error %d", i, err)
			}
			if err := d.Write(i, nil); err != api.ErrDevice {
				t.Errorf("Write(%d) of nothing to nil: error %d", i, err)
			}
		}
		d.Fuse(0)
		d.Flush()
		d.Settle([]byte{1})
		d.Crash([]byte{1})
		d.Fuse(1)
	}
}

func TestZeroDiskHasNoBlocks(t *testing.T) {
	var d Disk
	d.Flush()
	d.Settle([]byte{1})
	d.Crash([]byte{1})
	d.Fuse(0)
	c := d.Copy()
	if c == nil || c.Size() != 0 || len(c.Image()) != 0 || len(c.Stable()) != 0 || c.Pending() != 0 {
		t.Error("a zero disk has something")
	}
	if err := d.Write(0, filled(1)); err != api.ErrDevice {
		t.Errorf("Write to a zero disk: error %d", err)
	}
	if _, err := d.Read(0); err != api.ErrDevice {
		t.Errorf("Read of a zero disk: error %d", err)
	}
}
