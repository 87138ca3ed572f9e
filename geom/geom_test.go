package geom

import (
	"bytes"
	"encoding/hex"
	"math"
	"math/rand"
	"testing"

	"undercroft/api"
)

// extremes: numbers of blocks, block numbers and inode numbers that are never there.
func extremes() []int {
	return []int{
		math.MinInt, math.MinInt + 1, math.MinInt + 128, math.MinInt + 1024, math.MinInt64/4 + 128, -1 << 32, -1<<32 + 128, -1 << 31, -1024, -128, -2, -1,
		1025, 1026, 1152, 2048, 4096, 1 << 16, 1<<16 + 128, 1 << 31, 1<<31 - 1, 1<<32 + 128, 1<<32 + 1024, 1 << 62, math.MaxInt - 1024, math.MaxInt - 128, math.MaxInt - 1, math.MaxInt,
	}
}

// P6.1: Layout.

func TestLayoutExamples(t *testing.T) {
	for _, want := range []api.Geom{
		{Blocks: 128, Inodes: 32, BlockMap: 1, InodeMap: 2, Table: 3, Log: 19, LogLen: 36, Data: 55},
		{Blocks: 639, Inodes: 159, BlockMap: 1, InodeMap: 2, Table: 3, Log: 83, LogLen: 51, Data: 134},
		{Blocks: 1024, Inodes: 256, BlockMap: 1, InodeMap: 2, Table: 3, Log: 131, LogLen: 64, Data: 195},
	} {
		if g, err := Layout(want.Blocks); g != want || err != api.OK {
			t.Errorf("Layout(%d): %+v, error %d, want %+v", want.Blocks, g, err, want)
		}
	}
}

func TestLayoutOfEachNumberOfBlocks(t *testing.T) {
	for blocks := 128; blocks <= 1024; blocks++ {
		if g, err := Layout(blocks); g != plainLayout(blocks) || err != api.OK {
			t.Errorf("Layout(%d): %+v, error %d, want %+v", blocks, g, err, plainLayout(blocks))
		}
	}
}

func TestLayoutOfOtherNumbers(t *testing.T) {
	numbers := extremes()
	for blocks := -3000; blocks < 128; blocks++ {
		numbers = append(numbers, blocks)
	}
	for blocks := 1025; blocks < 5000; blocks++ {
		numbers = append(numbers, blocks)
	}
	for _, blocks := range numbers {
		if g, err := Layout(blocks); g != (api.Geom{}) || err != api.ErrArg {
			t.Errorf("Layout(%d): %+v, error %d, want the zero Geom, error %d", blocks, g, err, api.ErrArg)
		}
	}
}

// P6.1: Encode.

func TestEncodeTellsTheseBytes(t *testing.T) {
	for blocks, first := range map[int]string{
		128:  "55434654010000008000000020000000010000000200000003000000130000002400000037000000d9cbc4e9",
		639:  "55434654010000007f0200009f000000010000000200000003000000530000003300000086000000474e6b30",
		1024: "554346540100000000040000000100000100000002000000030000008300000040000000c300000006c2f6bf",
	} {
		want, err := hex.DecodeString(first)
		if err != nil {
			t.Fatal(err)
		}
		want = append(want, make([]byte, 256-len(want))...)
		if b := encoded(t, plainLayout(blocks)); !bytes.Equal(b, want) {
			t.Errorf("%d blocks:\n%x, want\n%x", blocks, b, want)
		}
		wantDecoded(t, "these bytes", want, plainLayout(blocks))
	}
}

func TestEncodeOfEachGeometry(t *testing.T) {
	for _, g := range layouts() {
		if b, err := Encode(g); err != api.OK || !bytes.Equal(b, plainSuper(g)) {
			t.Errorf("Encode(%+v): error %d,\n%x, want\n%x", g, err, b, plainSuper(g))
		}
	}
}

// What is no geometry: P6.1 of Encode, Where and Inode.

// One part of a geometry is another, each in turn.
func TestGeometryWithOneOtherPart(t *testing.T) {
	for _, blocks := range []int{128, 129, 131, 132, 159, 160, 639, 1000, 1020, 1023, 1024} {
		for part := range fields(&api.Geom{}) {
			is := *fields(new(plainLayout(blocks)))[part]
			others := append(extremes(), 0, 1, 2, 3, 4, 127, 128, 129, 1023, 1024, is-4, is-1, is+1, is+4, -is, is+1<<32, is-1<<32, is+math.MinInt)
			for _, v := range others {
				g := plainLayout(blocks)
				*fields(&g)[part] = v
				if !plainMay(g) { // Blocks alone may be another, if all else is the same of both
					wantNoGeometry(t, "one other part", g)
				}
			}
		}
	}
}

func TestGeometryWithEachOtherNumberOfBlocks(t *testing.T) {
	for _, g := range layouts() {
		for _, blocks := range []int{g.Blocks - 4, g.Blocks + 4, g.Blocks - 32, g.Blocks + 32, 0, -g.Blocks, 127, 1025} {
			x := g
			x.Blocks = blocks
			wantNoGeometry(t, "another number of blocks", x)
		}
	}
	// The numbers behind Blocks are the same of 128 to 131 blocks, so that each of these is the geometry of its Blocks.
	for blocks := 128; blocks < 132; blocks++ {
		g := plainLayout(128)
		g.Blocks = blocks
		wantDecoded(t, "with so many blocks", encoded(t, g), g)
	}
	g := plainLayout(128)
	g.Blocks = 132
	wantNoGeometry(t, "128 with 132 blocks", g)
}

func TestGeometryOfNoughts(t *testing.T) {
	wantNoGeometry(t, "noughts", api.Geom{})
	for part := range fields(&api.Geom{}) { // and noughts but for one part
		for _, v := range []int{1, 128, 1024} {
			var g api.Geom
			*fields(&g)[part] = v
			wantNoGeometry(t, "noughts but for one part", g)
		}
	}
}

// Numbers that would be parts of a device, but of so many blocks as none has.
func TestGeometryBeyondTheLimits(t *testing.T) {
	for _, blocks := range []int{96, 100, 124, 126, 127, 1025, 1028, 1056, 2048, 1 << 20} {
		wantNoGeometry(t, "too few or too many blocks", plainLayout(blocks))
	}
	for _, v := range extremes() {
		wantNoGeometry(t, "one number everywhere", api.Geom{Blocks: v, Inodes: v, BlockMap: v, InodeMap: v, Table: v, Log: v, LogLen: v, Data: v})
		wantNoGeometry(t, "far out", api.Geom{Blocks: v, Inodes: v / 4, BlockMap: 1, InodeMap: 2, Table: 3, Log: 3 + v/8, LogLen: 32 + v/32, Data: 35 + v/8 + v/32})
	}
}

func TestAnyGeometry(t *testing.T) {
	r := rand.New(rand.NewSource(6))
	for range 20000 {
		g := plainLayout(128 + r.Intn(897))
		for range r.Intn(3) {
			*fields(&g)[r.Intn(8)] = []int{r.Intn(1200), r.Int(), -r.Int(), r.Intn(9)}[r.Intn(4)]
		}
		if plainMay(g) {
			wantDecoded(t, "any geometry", encoded(t, g), g)
			continue
		}
		wantNoGeometry(t, "any geometry", g)
	}
}

// P6.1: Where.

func TestWhereAtTheEdges(t *testing.T) {
	// Of 128 blocks: the first and the last block of each part.
	for block, want := range map[int]int{-1: 0, 0: 1, 1: 2, 2: 3, 3: 4, 18: 4, 19: 5, 54: 5, 55: 6, 127: 6, 128: 0} {
		if part := Where(plainLayout(128), block); part != want {
			t.Errorf("128 blocks: Where(%d): %d, want %d", block, part, want)
		}
	}
	for block, want := range map[int]int{-1: 0, 0: 1, 1: 2, 2: 3, 3: 4, 130: 4, 131: 5, 194: 5, 195: 6, 1023: 6, 1024: 0} {
		if part := Where(plainLayout(1024), block); part != want {
			t.Errorf("1024 blocks: Where(%d): %d, want %d", block, part, want)
		}
	}
}

func TestWhereOfEachBlock(t *testing.T) {
	for _, g := range layouts() {
		for block := -2; block <= g.Blocks+2; block++ {
			if part := Where(g, block); part != plainWhere(g, block) {
				t.Fatalf("%d blocks: Where(%d): %d, want %d", g.Blocks, block, part, plainWhere(g, block))
			}
		}
	}
}

func TestWhereOfNoBlock(t *testing.T) {
	for _, g := range []api.Geom{plainLayout(128), plainLayout(130), plainLayout(639), plainLayout(1024)} {
		for _, block := range append(extremes(), g.Blocks, g.Blocks+1, 2*g.Blocks, -g.Blocks) {
			if part := Where(g, block); part != 0 {
				t.Errorf("%d blocks: Where(%d): %d, want 0", g.Blocks, block, part)
			}
		}
	}
}

// P6.1: Inode.

func TestInodeExamples(t *testing.T) {
	for _, c := range []struct{ blocks, i, block, place int }{
		{128, 0, 3, 0}, {128, 1, 3, 128}, {128, 2, 4, 0}, {128, 3, 4, 128}, {128, 30, 18, 0}, {128, 31, 18, 128},
		{132, 32, 19, 0}, // an odd number of inodes: the last block has one
		{1023, 254, 130, 0}, {1024, 254, 130, 0}, {1024, 255, 130, 128},
	} {
		if block, place, err := Inode(plainLayout(c.blocks), c.i); block != c.block || place != c.place || err != api.OK {
			t.Errorf("%d blocks: Inode(%d): %d, %d, error %d, want %d, %d", c.blocks, c.i, block, place, err, c.block, c.place)
		}
	}
}

func TestInodeOfEach(t *testing.T) {
	for _, g := range layouts() {
		for i := range g.Inodes {
			at := 3*256 + 128*i
			if block, place, err := Inode(g, i); block != at/256 || place != at%256 || err != api.OK {
				t.Fatalf("%d blocks: Inode(%d): %d, %d, error %d, want %d, %d", g.Blocks, i, block, place, err, at/256, at%256)
			}
		}
	}
}

func TestInodeOfNone(t *testing.T) {
	for _, g := range layouts() {
		for _, i := range append(extremes(), g.Inodes, g.Inodes+1, 2*g.Inodes+1, g.Blocks, -g.Inodes) {
			if block, place, err := Inode(g, i); block != 0 || place != 0 || err != api.ErrArg {
				t.Fatalf("%d blocks: Inode(%d): %d, %d, error %d, want 0, 0, error %d", g.Blocks, i, block, place, err, api.ErrArg)
			}
		}
	}
}

// P6.2: the parts, the room, the inodes' bytes; asked of the program's own answers alone.

func TestPartsFollowOneAnother(t *testing.T) {
	for blocks := 128; blocks <= 1024; blocks++ {
		g, _ := Layout(blocks)
		begin := []int{0, g.BlockMap, g.InodeMap, g.Table, g.Log, g.Data, g.Blocks}
		next := 0
		for part := 1; part <= 6; part++ {
			if begin[part-1] != next {
				t.Fatalf("%d blocks: part %d begins at %d, want %d", blocks, part, begin[part-1], next)
			}
			for ; next < begin[part]; next++ {
				if Where(g, next) != part {
					t.Fatalf("%d blocks: block %d is of part %d, want %d", blocks, next, Where(g, next), part)
				}
			}
		}
		if g.Blocks != blocks || next != blocks {
			t.Errorf("%d blocks: the parts have %d of %d", blocks, next, g.Blocks)
		}
	}
}

func TestRoomOfTheParts(t *testing.T) {
	for blocks := 128; blocks <= 1024; blocks++ {
		g, _ := Layout(blocks)
		if g.Data >= g.Blocks {
			t.Errorf("%d blocks: no data blocks", blocks)
		}
		if g.LogLen < 36 || g.Log+g.LogLen != g.Data {
			t.Errorf("%d blocks: a log of %d blocks from %d on, data from %d on", blocks, g.LogLen, g.Log, g.Data)
		}
		if 8*api.Block < g.Blocks || 8*api.Block < g.Inodes || g.InodeMap-g.BlockMap != 1 || g.Table-g.InodeMap != 1 {
			t.Errorf("%d blocks: a map has no room for its bits, or not one block", blocks)
		}
	}
}

func TestNoTwoInodesShareAByte(t *testing.T) {
	for blocks := 128; blocks <= 1024; blocks++ {
		g, _ := Layout(blocks)
		met := make([]int, g.Blocks*256) // by byte of the device: how many inodes have it
		for i := range g.Inodes {
			block, place, err := Inode(g, i)
			if err != api.OK || place < 0 || place+128 > 256 || Where(g, block) != 4 {
				t.Fatalf("%d blocks: inode %d at %d, %d of part %d, error %d", blocks, i, block, place, Where(g, block), err)
			}
			for k := range 128 {
				met[256*block+place+k]++
			}
		}
		shared := 0
		for _, n := range met {
			shared = max(shared, n)
		}
		if shared != 1 {
			t.Errorf("%d blocks: a byte that %d inodes have", blocks, shared)
		}
		// And the table has no block more than they need.
		if last, _, _ := Inode(g, g.Inodes-1); last != g.Log-1 {
			t.Errorf("%d blocks: the last inode lies in block %d, the table ends ahead of %d", blocks, last, g.Log)
		}
	}
}

// Equal calls answer the same, and nothing is kept from call to call.
func TestAskedAgain(t *testing.T) {
	g, other := plainLayout(128), plainLayout(1024)
	for range 3 {
		Encode(other)
		Decode(plainSuper(other))
		Inode(other, 255)
		if again, err := Layout(128); again != g || err != api.OK {
			t.Errorf("Layout(128): %+v, error %d", again, err)
		}
		wantDecoded(t, "again", encoded(t, g), g)
		if part := Where(g, 19); part != 5 {
			t.Errorf("Where(19): %d", part)
		}
		if block, place, err := Inode(g, 3); block != 4 || place != 128 || err != api.OK {
			t.Errorf("Inode(3): %d, %d, error %d", block, place, err)
		}
	}
}
