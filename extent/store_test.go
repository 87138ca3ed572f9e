package extent

import (
	"bytes"
	"encoding/binary"
	"encoding/hex"
	"math"
	"slices"
	"strings"
	"testing"

	"undercroft/api"
)

// lengths: how long the lists are that the document's edges name.
func lengths() []int { return []int{0, 1, 3, 4, 5, 6, 19, 20, 21, 22, 39, 40, 41, 42, 59, 60} }

// stored: the root and the nodes of a list that is right.
func stored(t *testing.T, l []api.Extent) ([]byte, [][]byte) {
	t.Helper()
	root, nodes, err := Store(l, blocksFor(needed(len(l))))
	if err != api.OK || len(root) != 60 || len(nodes) != needed(len(l)) {
		t.Fatalf("Store(%v): %d bytes, %d nodes, error %d", l, len(root), len(nodes), err)
	}
	return root, nodes
}

// unstored: Store refuses the list with these blocks.
func unstored(t *testing.T, what string, l []api.Extent, blocks []int) {
	t.Helper()
	if root, nodes, err := Store(l, blocks); err != api.ErrArg || len(root) != 0 || len(nodes) != 0 {
		t.Errorf("%s: Store(%d extents, %v): %x, %x, error %d, want error %d alone", what, len(l), blocks, root, nodes, err, api.ErrArg)
	}
}

// noRoot: Root refuses the bytes.
func noRoot(t *testing.T, what string, body []byte) {
	t.Helper()
	if l, blocks, err := Root(body); err != api.ErrClean || len(l) != 0 || len(blocks) != 0 {
		t.Errorf("%s: Root(%x): %v, %v, error %d, want error %d alone", what, body, l, blocks, err, api.ErrClean)
	}
}

// noNodes: Join refuses the nodes.
func noNodes(t *testing.T, what string, nodes ...[]byte) {
	t.Helper()
	if l, err := Join(nodes); err != api.ErrClean || len(l) != 0 {
		t.Errorf("%s: Join(%x): %v, error %d, want error %d alone", what, nodes, l, err, api.ErrClean)
	}
}

// P10.1: Need.

func TestNeed(t *testing.T) {
	for n := range 62 {
		want := needed(n)
		if n > 60 {
			want = -1
		}
		if got := Need(spaced(n)); got != want {
			t.Errorf("Need of %d extents: %d, want %d", n, got, want)
		}
	}
	for _, n := range []int{1, 4, 5, 20, 60} {
		l := spaced(n)
		l[n/2].Len = 0
		if got := Need(l); got != -1 {
			t.Errorf("Need of %d extents that aren't right: %d, want -1", n, got)
		}
	}
}

// P10.1: these lists have these bytes.

func TestTheseBytes(t *testing.T) {
	l := list(written(0, 50, 5), unwritten(5, 1023, 1), unwritten(253, 1, 1), written(254, 256, 2))
	root, nodes := stored(t, l)
	want := "04000000" +
		"00000000" + "32000000" + "0500" + "0000" +
		"05000000" + "ff030000" + "0100" + "0100" +
		"fd000000" + "01000000" + "0100" + "0100" +
		"fe000000" + "00010000" + "0200" + "0000"
	if got := hex.EncodeToString(root); got != want+strings.Repeat("00", 8) || len(nodes) != 0 {
		t.Errorf("the root: %s, want %s and noughts", got, want)
	}
	root, nodes = stored(t, append(slices.Clone(l[:3]), written(254, 256, 1), unwritten(255, 257, 1)))
	if got := hex.EncodeToString(root); got != "01000100"+"ff030000"+strings.Repeat("00", 52) {
		t.Errorf("the root of one node: %s", got)
	}
	want = "05000000" + want[8:8+72] + "fe000000" + "00010000" + "0100" + "0000" + "ff000000" + "01010000" + "0100" + "0100" + strings.Repeat("00", 252-64)
	if got := hex.EncodeToString(nodes[0]); got != want+"8348f5a2" {
		t.Errorf("the node: %s, want %s and the sum", got, want)
	}
}

func TestRootsOfNoExtentsAndOfThreeNodes(t *testing.T) {
	root, nodes := stored(t, nil)
	if !bytes.Equal(root, make([]byte, 60)) || len(nodes) != 0 {
		t.Errorf("the root of none: %x, %x", root, nodes)
	}
	root, nodes = stored(t, spaced(60))
	if got := hex.EncodeToString(root); got != "03000100"+"ff030000"+"01000000"+"00020000"+strings.Repeat("00", 44) {
		t.Errorf("the root of three nodes: %s", got)
	}
	for k, b := range nodes {
		if !bytes.Equal(b, plainNode(spaced(60)[20*k:20*k+20])) {
			t.Errorf("node %d: %x", k, b)
		}
	}
}

// The greatest numbers that an extent has.
func TestRootOfTheWholeFile(t *testing.T) {
	root, _ := stored(t, list(unwritten(0, 768, 256)))
	if got := hex.EncodeToString(root); got != "01000000"+"00000000"+"00030000"+"0001"+"0100"+strings.Repeat("00", 44) {
		t.Errorf("the root: %s", got)
	}
	for _, l := range [][]api.Extent{list(written(0, 1, 256)), list(written(255, 1023, 1)), list(unwritten(1, 769, 255))} {
		root, _ = stored(t, l)
		got, _, err := Root(root)
		wantList(t, "Root", got, err, l...)
		wantStore(t, l, nil)
	}
}

// P10.1: Store.

func TestStoreOfManyLengths(t *testing.T) {
	for n := range 62 {
		for many := range 5 {
			wantStore(t, spaced(n), blocksFor(many))
		}
	}
	for _, n := range lengths() {
		l := spaced(n)
		for many := range 5 {
			if many != needed(n) {
				unstored(t, "too few or too many blocks", l, blocksFor(many))
			}
		}
		if n > 0 {
			l[n-1].Start = 0
			unstored(t, "a list that isn't right", l, blocksFor(needed(n)))
		}
	}
	unstored(t, "61 extents", spaced(61), blocksFor(3))
	unstored(t, "61 extents", spaced(61), blocksFor(4))
	unstored(t, "a long list", make([]api.Extent, 1<<16), blocksFor(0))
	unstored(t, "many blocks", spaced(60), make([]int, 1<<16))
}

func TestStoreInTheseBlocks(t *testing.T) {
	for _, n := range []int{5, 21, 41} {
		l := spaced(n)
		for k := range needed(n) {
			for v, may := range map[int]bool{-1: false, 0: false, 1: true, 2: true, 1022: true, 1023: true, 1024: false, 1025: false} {
				blocks := []int{100, 200, 300}[:needed(n)]
				blocks[k] = v
				wantStore(t, l, blocks)
				if !may {
					unstored(t, "a block that isn't one", l, blocks)
				}
			}
			for _, v := range far() {
				blocks := []int{100, 200, 300}[:needed(n)]
				blocks[k] = v
				unstored(t, "a block far beyond", l, blocks)
			}
		}
	}
	unstored(t, "two the same", spaced(40), []int{7, 7})
	for _, blocks := range [][]int{{7, 7, 8}, {7, 8, 7}, {8, 7, 7}, {7, 7, 7}} {
		unstored(t, "two the same", spaced(60), blocks)
	}
	// Nothing is said of the blocks where the list's own lie.
	wantStore(t, spaced(5), []int{1020})
}

// P10.1 and P10.3: what is stored is read again.

func TestStoredAndRead(t *testing.T) {
	for n := range 61 {
		l := spaced(n)
		root, nodes := stored(t, l)
		got, blocks, err := Root(root)
		if n <= 4 {
			wantList(t, "Root", got, err, l...)
			if len(blocks) != 0 {
				t.Errorf("Root of %d extents: blocks %v", n, blocks)
			}
			noNodes(t, "no nodes", nodes...)
			continue
		}
		if err != api.OK || len(got) != 0 || !slices.Equal(blocks, blocksFor(needed(n))) {
			t.Errorf("Root of %d extents: %v, %v, %d", n, got, blocks, err)
		}
		got, err = Join(nodes)
		wantList(t, "Join", got, err, l...)
	}
}

// P10.1: Root.

func TestRootOfOtherLengths(t *testing.T) {
	for _, n := range []int{0, 1, 4, 5, 60} {
		root, _ := stored(t, spaced(n))
		for k := range root {
			noRoot(t, "cut short", root[:k])
			noRoot(t, "cut short, without room", root[:k:k])
			noRoot(t, "without its beginning", root[60-k:])
		}
		noRoot(t, "one byte more", append(slices.Clone(root), 0))
		noRoot(t, "many bytes more", append(slices.Clone(root), make([]byte, 196)...))
	}
	for _, n := range []int{0, 1, 2, 3, 4, 59, 61, 128, 256, 1 << 16} {
		noRoot(t, "noughts", make([]byte, n))
		noRoot(t, "all ones", bytes.Repeat([]byte{255}, n))
	}
	noRoot(t, "nil", nil)
}

// body: the bytes of a root, changed by f.
func body(l []api.Extent, f func(b []byte)) []byte {
	b := plainHolding(l, 60)
	f(b)
	return b
}

func TestRootOfExtents(t *testing.T) {
	for n := range 5 {
		for many := range 1 << 16 {
			if many < 300 || many%256 == n {
				wantRoot(t, body(spaced(n), func(b []byte) { binary.LittleEndian.PutUint16(b, uint16(many)) }))
			}
		}
		for which := range 1 << 16 {
			wantRoot(t, body(spaced(n), func(b []byte) { binary.LittleEndian.PutUint16(b[2:], uint16(which)) }))
		}
		for at := 4 + 12*n; at < 60; at++ {
			noRoot(t, "a byte behind", body(spaced(n), func(b []byte) { b[at] = 1 }))
			noRoot(t, "a byte behind", body(spaced(n), func(b []byte) { b[at] = 0x80 }))
		}
	}
	noRoot(t, "5 extents", body(spaced(4), func(b []byte) { b[0] = 5 }))
	noRoot(t, "5 extents, the last one cut short", body(list(written(0, 1, 1), written(1, 3, 1), written(2, 5, 1), written(3, 7, 1)), func(b []byte) {
		b[0] = 5
		copy(b[52:], plainHolding(list(written(9, 9, 1)), 60)[4:])
	}))
	noRoot(t, "fewer than there are", body(spaced(4), func(b []byte) { b[0] = 3 }))
	noRoot(t, "more than there are", body(spaced(3), func(b []byte) { b[0] = 4 }))
	noRoot(t, "second number 1", body(spaced(4), func(b []byte) { b[2] = 1 }))
	noRoot(t, "second number 1, of none", body(nil, func(b []byte) { b[2] = 1 }))
	noRoot(t, "second number 2", body(spaced(4), func(b []byte) { b[2] = 2 }))
	noRoot(t, "second number 256", body(spaced(4), func(b []byte) { b[3] = 1 }))
}

func TestRootOfAListThatIsNotRight(t *testing.T) {
	for what, l := range map[string][]api.Extent{
		"not in order":                 list(written(9, 50, 1), written(0, 60, 1)),
		"a block of the file twice":    list(written(0, 50, 2), written(1, 60, 1)),
		"a block of the device twice":  list(written(0, 50, 2), written(4, 80, 1), written(9, 51, 1)),
		"one that goes on":             list(written(0, 50, 2), written(2, 52, 1)),
		"two unwritten, one goes on":   list(unwritten(0, 50, 2), unwritten(2, 52, 1)),
		"Start 0":                      list(written(0, 0, 1)),
		"Len 0":                        list(written(0, 50, 0)),
		"At 256":                       list(written(256, 50, 1)),
		"Start 1024":                   list(written(0, 1024, 1)),
		"At + Len 257":                 list(written(250, 50, 7)),
		"Start + Len 1025":             list(written(0, 1020, 5)),
		"Len 65535":                    list(written(0, 1, 65535)),
		"At 2^32 - 1":                  list(written(math.MaxUint32, 1, 1)),
		"Start 2^32 - 1":               list(written(0, math.MaxUint32, 1)),
		"At 2^31":                      list(written(1<<31, 1, 1)),
		"Start 2^31":                   list(written(0, 1<<31, 1)),
		"all zero":                     make([]api.Extent, 1),
		"the fourth is all zero":       append(spaced(3), api.Extent{}),
		"the fourth is the first":      append(spaced(3), spaced(1)...),
		"the fourth goes on":           append(spaced(3), next(spaced(3)[2])),
		"At 2^16":                      list(written(1<<16, 50, 1)),
		"Start 2^16 + 50":              list(written(0, 1<<16+50, 1)),
		"Len 257":                      list(written(0, 50, 257)),
		"Len 256 from the second on":   list(written(1, 50, 256)),
		"the same one twice":           list(written(0, 50, 2), written(0, 50, 2)),
		"a second one within, unwritt": list(written(0, 50, 9), unwritten(3, 700, 1)),
	} {
		noRoot(t, what, plainHolding(l, 60))
	}
	for _, v := range []byte{2, 3, 128, 255} {
		noRoot(t, "Unwritten", body(spaced(1), func(b []byte) { b[14] = v }))
		noRoot(t, "Unwritten", body(spaced(1), func(b []byte) { b[15] = v }))
		noRoot(t, "Unwritten", body(spaced(2), func(b []byte) { b[27] = v }))
	}
	noRoot(t, "Unwritten 256", body(spaced(1), func(b []byte) { b[15] = 1 }))
	noRoot(t, "Unwritten 257", body(spaced(1), func(b []byte) { b[14], b[15] = 1, 1 }))
}

func TestRootOfNodes(t *testing.T) {
	for many := range 5 {
		wantRoot(t, plainNaming(blocksFor(many)))
	}
	noRoot(t, "0 nodes", plainNaming(nil))
	noRoot(t, "4 nodes", plainNaming(blocksFor(4)))
	noRoot(t, "14 nodes", plainNaming([]int{1, 2, 3, 4, 5, 6, 7, 8, 9, 10, 11, 12, 13, 14}))
	for n := 1; n <= 3; n++ {
		for many := range 1 << 16 {
			b := plainNaming(blocksFor(n))
			binary.LittleEndian.PutUint16(b, uint16(many))
			wantRoot(t, b)
			b = plainNaming(blocksFor(n))
			binary.LittleEndian.PutUint16(b[2:], uint16(many))
			wantRoot(t, b)
		}
		for _, which := range []byte{0, 2, 3, 255} {
			b := plainNaming(blocksFor(n))
			b[2] = which
			noRoot(t, "another second number", b)
		}
		for at := 4 + 4*n; at < 60; at++ {
			for _, v := range []byte{1, 0x80, 0xff} {
				b := plainNaming(blocksFor(n))
				b[at] = v
				noRoot(t, "a byte behind", b)
			}
		}
		for k := range n {
			for _, v := range append(near(), 1<<16, 1<<16+5, 1<<24+5, 1<<31, 1<<31+5, math.MaxUint32) {
				blocks := []int{100, 200, 300}[:n]
				blocks[k] = v
				wantRoot(t, plainNaming(blocks))
				if v < 1 || v > 1023 {
					noRoot(t, "a block that isn't one", plainNaming(blocks))
				}
			}
		}
	}
	for _, blocks := range [][]int{{7, 7}, {7, 7, 8}, {7, 8, 7}, {8, 7, 7}, {7, 7, 7}} {
		noRoot(t, "two the same", plainNaming(blocks))
	}
}

// P10.1: Join.

func TestJoinOfManyNodes(t *testing.T) {
	_, nodes := stored(t, spaced(60))
	noNodes(t, "nil")
	noNodes(t, "none", [][]byte{}...)
	l, err := Join(nodes[:1])
	wantList(t, "1 node", l, err, spaced(20)...)
	l, err = Join(nodes)
	wantList(t, "3 nodes", l, err, spaced(60)...)
	noNodes(t, "4 nodes", append(slices.Clone(nodes), plainNode(list(written(250, 1, 1))))...)
	noNodes(t, "4 nodes, the last one without extents", append(slices.Clone(nodes), plainNode(nil))...)
	noNodes(t, "4 nodes, all 0", make([][]byte, 4)...)
	noNodes(t, "very many", make([][]byte, 1<<16)...)
	for n := 1; n <= 3; n++ {
		noNodes(t, "nodes that are nil", make([][]byte, n)...)
	}
	noNodes(t, "another order", nodes[1], nodes[0], nodes[2])
	noNodes(t, "the same twice", nodes[0], nodes[0])
	l, err = Join([][]byte{nodes[0], nodes[2]})
	wantList(t, "without the second one", l, err, append(spaced(20), spaced(60)[40:]...)...)
}

func TestJoinOfOtherLengths(t *testing.T) {
	for _, n := range []int{5, 20, 21, 40, 41, 60} {
		_, nodes := stored(t, spaced(n))
		for k, was := range nodes {
			for _, b := range [][]byte{nil, was[:1], was[:4], was[:252], was[:255], was[:255:255], was[1:], append(slices.Clone(was), 0), append(slices.Clone(was), was...)} {
				nodes[k] = b
				noNodes(t, "another length", nodes...)
			}
			// Their last four bytes are the sum of the others.
			for _, size := range []int{4, 64, 255, 257, 512} {
				b := make([]byte, size)
				copy(b[:size-4], was)
				nodes[k] = sealed(b)
				noNodes(t, "another length, sealed", nodes...)
			}
			nodes[k] = was
		}
	}
}

func TestJoinOfOtherNumbers(t *testing.T) {
	all := spaced(60)
	node := func(from, to int) []byte { return plainNode(all[from:to]) }
	for n := range 21 {
		l, err := Join([][]byte{node(0, n)})
		if n <= 4 {
			wantError(t, "one node of 4 or fewer", l, err, api.ErrClean)
		} else {
			wantList(t, "one node", l, err, all[:n]...)
		}
		noNodes(t, "the first one has fewer, or none is needed behind it", node(0, n), node(n, n))
		if n < 20 {
			noNodes(t, "the first one has fewer", node(0, n), node(n, n+20))
			noNodes(t, "the second one has fewer", node(0, 20), node(20, 20+n), node(20+n, 40))
		}
		if n > 0 {
			l, err = Join([][]byte{node(0, 20), node(20, 20+n)})
			wantList(t, "two nodes", l, err, all[:20+n]...)
			l, err = Join([][]byte{node(0, 20), node(20, 40), node(40, 40+n)})
			wantList(t, "three nodes", l, err, all[:40+n]...)
		}
	}
	noNodes(t, "19 and 1", node(0, 19), node(19, 20))
	noNodes(t, "19 and 20", node(0, 19), node(19, 39))
	noNodes(t, "5 extents in two", node(0, 4), node(4, 5))
	noNodes(t, "4 extents in two", node(0, 2), node(2, 4))
	noNodes(t, "20, 20 and none", node(0, 20), node(20, 40), node(40, 40))
	noNodes(t, "20, none and 20", node(0, 20), node(20, 20), node(20, 40))
	noNodes(t, "none, 20 and 20", node(0, 0), node(0, 20), node(20, 40))
}

// A node with 21 extents: the last one would lie where the sum does.
func TestJoinOf21(t *testing.T) {
	b := plainHolding(spaced(20), 256)
	b[0] = 21
	noNodes(t, "21, the last one being all zero", sealed(b))
	copy(b[244:252], plainHolding(spaced(21)[20:], 60)[4:])
	noNodes(t, "21, the last one beginning ahead of the sum", sealed(b))
	noNodes(t, "21 and one more", sealed(b), plainNode(spaced(60)[40:]))
	b = plainHolding(spaced(21), 256)
	noNodes(t, "21 in place of the sum", b)
	for many := range 1 << 16 {
		if many < 300 || many%256 == 20 {
			b := plainHolding(spaced(20), 256)
			binary.LittleEndian.PutUint16(b, uint16(many))
			wantJoin(t, [][]byte{sealed(b)})
		}
	}
}

// node: the bytes of a node of l, changed by f, with their sum put right.
func node(l []api.Extent, f func(b []byte)) []byte {
	b := plainNode(l)
	f(b)
	return sealed(b)
}

func TestJoinOfOtherBytes(t *testing.T) {
	for _, n := range []int{5, 19, 20} {
		l := spaced(n)
		for at := 4 + 12*n; at < 252; at++ {
			noNodes(t, "a byte ahead of the sum", node(l, func(b []byte) { b[at] = 1 }))
			noNodes(t, "a byte ahead of the sum", node(l, func(b []byte) { b[at] = 0xff }))
		}
		for _, v := range []byte{1, 2, 255} {
			noNodes(t, "the second number", node(l, func(b []byte) { b[2] = v }))
			noNodes(t, "the second number", node(l, func(b []byte) { b[3] = v }))
		}
		for k := range n {
			for _, v := range []byte{2, 3, 255} {
				noNodes(t, "Unwritten", node(l, func(b []byte) { b[14+12*k] = v }))
			}
			noNodes(t, "Unwritten 256", node(l, func(b []byte) { b[14+12*k], b[15+12*k] = 0, 1 }))
			noNodes(t, "Start 0", node(l, func(b []byte) { b[8+12*k], b[9+12*k] = 0, 0 }))
			noNodes(t, "Start beyond", node(l, func(b []byte) { b[11+12*k] = 0x80 }))
			noNodes(t, "At beyond", node(l, func(b []byte) { b[7+12*k] = 0x80 }))
			noNodes(t, "Len 0", node(l, func(b []byte) { b[12+12*k] = 0 }))
			noNodes(t, "Len beyond", node(l, func(b []byte) { b[13+12*k] = 1 }))
		}
		for bit := range 8 * 256 {
			b := plainNode(l)
			b[bit/8] ^= 1 << (bit % 8)
			noNodes(t, "a bit was turned", b)
			if bit < 8*252 {
				wantJoin(t, [][]byte{sealed(b)})
			}
		}
	}
}

func TestJoinOfWrongSums(t *testing.T) {
	_, nodes := stored(t, spaced(60))
	for k, was := range nodes {
		for _, sum := range []string{"\x00\x00\x00\x00", "\xff\xff\xff\xff", string(was[251:255]), string(was[:4])} {
			b := slices.Clone(was)
			copy(b[252:], sum)
			nodes[k] = b
			noNodes(t, "another sum", nodes...)
		}
		b := slices.Clone(was)
		slices.Reverse(b[252:])
		nodes[k] = b
		noNodes(t, "the sum's bytes the other way round", nodes...)
		nodes[k] = was
	}
	for _, v := range []byte{0, 1, 255} {
		noNodes(t, "all bytes the same", bytes.Repeat([]byte{v}, 256))
		noNodes(t, "all bytes the same, sealed", sealed(bytes.Repeat([]byte{v}, 256)))
	}
}

// Lists that aren't right, though each node by itself may be.
func TestJoinOfAListThatIsNotRight(t *testing.T) {
	for what, change := range map[string]func(l []api.Extent){
		"a block of the device in common": func(l []api.Extent) { l[20].Start = l[19].Start + 2 },
		"and far off":                     func(l []api.Extent) { l[39].Start = l[0].Start },
		"a block of the file in common":   func(l []api.Extent) { l[20].At = l[19].At + 2 },
		"not in order":                    func(l []api.Extent) { l[20].At = 0 },
		"one that goes on": func(l []api.Extent) {
			l[20] = next(l[19])
			l[20].Unwritten = l[19].Unwritten
		},
	} {
		l := spaced(40)
		change(l)
		noNodes(t, what, plainNodes(l)...)
	}
	l := spaced(40)
	l[20] = next(l[19])
	l[20].Unwritten = !l[19].Unwritten
	got, err := Join(plainNodes(l))
	wantList(t, "one that goes on, of another Unwritten", got, err, l...)
}
