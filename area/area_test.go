package area

import (
	"bytes"
	"math"
	"testing"

	"undercroft/api"
	"undercroft/disk"
)

// What log and replay promise of areas is tested there; here stands what they lean on, call by call.

// numbered: a disk each of whose blocks holds its own number over and over.
func numbered(t *testing.T, blocks int) *disk.Disk {
	t.Helper()
	d, err := disk.New(blocks)
	if err != api.OK {
		t.Fatal(err)
	}
	for i := range blocks {
		d.Write(i, filled(byte(i)))
	}
	d.Flush()
	return d
}

func filled(c byte) []byte { return bytes.Repeat([]byte{c}, api.Block) }

func of(t *testing.T, d *disk.Disk, start, length int) Area {
	t.Helper()
	a, ok := Of(d, start, length)
	if !ok {
		t.Fatalf("Of(%d, %d) of %d blocks: false", start, length, d.Size())
	}
	return a
}

func TestWhichAreasMayBe(t *testing.T) {
	d := numbered(t, 20)
	for _, c := range [][2]int{{0, 8}, {12, 8}, {0, 20}, {5, 9}} {
		if a := of(t, d, c[0], c[1]); a.Places() != c[1]-1 {
			t.Errorf("%v: %d places", c, a.Places())
		}
	}
	for _, c := range [][2]int{{0, 7}, {13, 8}, {-1, 8}, {0, 21}, {1, 20}, {0, 1025}, {20, 8}, {math.MaxInt, 8}, {math.MinInt, 8}, {0, math.MaxInt}, {0, math.MinInt}} {
		if a, ok := Of(d, c[0], c[1]); ok || a != (Area{}) {
			t.Errorf("%v: %v, %v, want the zero Area, false", c, a, ok)
		}
	}
	if a, ok := Of(nil, 0, 8); ok || a != (Area{}) {
		t.Errorf("of no disk: %v, %v", a, ok)
	}
}

func TestTheZeroArea(t *testing.T) {
	var a Area
	if _, _, ok := a.Head(); ok || a.Places() != 0 || a.Takes(api.Txn{Revokes: []int{0}}) || a.Takes(api.Txn{Writes: []api.Write{{}}}) {
		t.Error("the zero Area has a head, a place, or takes a record")
	}
}

func TestHeads(t *testing.T) {
	d := numbered(t, 20)
	a := of(t, d, 4, 10)
	if _, _, ok := a.Head(); ok {
		t.Error("a head where none is")
	}
	for _, place := range []int{0, 1, 8} {
		for _, seq := range []uint64{0, 1, 0x0807060504030201, math.MaxUint64} {
			a.PutHead(seq, place)
			if s, p, ok := a.Head(); s != seq || p != place || !ok {
				t.Errorf("Head: %d, %d, %v, want %d, %d", s, p, ok, seq, place)
			}
		}
	}
	a.PutHead(1, 9)
	if s, p, ok := a.Head(); s != 0 || p != 0 || ok {
		t.Errorf("Head: %d, %d, %v of a place that the ring has not", s, p, ok)
	}
}

func TestRings(t *testing.T) {
	d := numbered(t, 20)
	a := of(t, d, 4, 10) // places 0 to 8 are blocks 5 to 13
	for place := range 9 {
		b := a.Ring(place)
		if len(b) != 9*api.Block {
			t.Fatalf("Ring(%d): %d bytes", place, len(b))
		}
		for k := range 9 {
			at := a.Behind(place, k)
			if at != (place+k)%9 || !bytes.Equal(b[k*api.Block:(k+1)*api.Block], filled(byte(5+at))) {
				t.Errorf("Ring(%d), block %d: %d", place, k, b[k*api.Block])
			}
		}
	}
	a.Put(8, filled(99))
	if b, _ := d.Read(13); !bytes.Equal(b, filled(99)) {
		t.Error("Put(8) writes another block")
	}
	if d.Pending() != 1 {
		t.Errorf("Pending %d behind one Put", d.Pending())
	}
}

func TestWhatAnAreaTakes(t *testing.T) {
	a := of(t, numbered(t, 20), 4, 10)
	for block := -2; block < 24; block++ {
		want := block >= 0 && block < 20 && (block < 4 || block > 13)
		one := a.Takes(api.Txn{Writes: []api.Write{{Block: 0}, {Block: block}}, Revokes: []int{19}})
		two := a.Takes(api.Txn{Writes: []api.Write{{Block: 0}}, Revokes: []int{19, block}})
		if one != want || two != want {
			t.Errorf("block %d: %v, %v, want %v", block, one, two, want)
		}
	}
	if !a.Takes(api.Txn{}) {
		t.Error("a record without blocks")
	}
}

func TestHome(t *testing.T) {
	d := numbered(t, 20)
	a := of(t, d, 4, 10)
	a.Home([]api.Txn{
		{Seq: 5, Writes: []api.Write{{Block: 0, Data: filled(50)}, {Block: 1, Data: filled(51)}, {Block: 2, Data: filled(52)}}},
		{Seq: 6, Writes: []api.Write{{Block: 3, Data: filled(63)}, {Block: 0, Data: filled(60)}}, Revokes: []int{1, 2}},
		{Seq: 7, Writes: []api.Write{{Block: 2, Data: filled(72)}}, Revokes: []int{19}},
	})
	if d.Pending() != 4 {
		t.Errorf("Pending %d, want 4", d.Pending())
	}
	for block, want := range []byte{60, 1, 72, 63, 4} {
		if b, _ := d.Read(block); !bytes.Equal(b, filled(want)) {
			t.Errorf("block %d: %d, want %d", block, b[0], want)
		}
	}
	a.Home(nil)
	if d.Pending() != 4 {
		t.Error("no records write something")
	}
}
