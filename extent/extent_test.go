package extent

import (
	"math"
	"slices"
	"testing"

	"undercroft/api"
)

// written and unwritten: an extent.

func written(at, start, n int) api.Extent { return api.Extent{At: at, Start: start, Len: n} }

func unwritten(at, start, n int) api.Extent {
	return api.Extent{At: at, Start: start, Len: n, Unwritten: true}
}

func list(l ...api.Extent) []api.Extent { return l }

// wantList: a call answered that list, and no error.
func wantList(t *testing.T, what string, got []api.Extent, err api.Errno, want ...api.Extent) {
	t.Helper()
	if err != api.OK || !slices.Equal(got, want) {
		t.Errorf("%s: %v, error %d, want %v", what, got, err, want)
	}
}

// wantError: a call answered that error, and no list.
func wantError(t *testing.T, what string, got []api.Extent, err, want api.Errno) {
	t.Helper()
	if err != want || len(got) != 0 {
		t.Errorf("%s: %v, error %d, want error %d alone", what, got, err, want)
	}
}

func wantSpans(t *testing.T, what string, got []api.Span, want ...api.Span) {
	t.Helper()
	if !slices.Equal(got, want) {
		t.Errorf("%s: spans %v, want %v", what, got, want)
	}
}

// P10.1: the document's examples.

func TestExamples(t *testing.T) {
	l, err := Put(list(written(2, 52, 3)), written(0, 50, 2))
	wantList(t, "Put", l, err, written(0, 50, 5))
	l, gone, err := Cut(l, 1, 3)
	wantList(t, "Cut", l, err, written(0, 50, 1), written(3, 53, 2))
	wantSpans(t, "Cut", gone, api.Span{Start: 51, Len: 2})
	if block, written, is := Find(list(written(0, 50, 5)), 4); block != 54 || !written || !is {
		t.Errorf("Find 4: %d, %v, %v, want 54, written", block, written, is)
	}
	if one, two := Need(spaced(5)), Need(spaced(21)); one != 1 || two != 2 {
		t.Errorf("Need of 5 and 21: %d, %d, want 1, 2", one, two)
	}
}

// P10.1: Check.

// checked: Check answers whether this list is right, and so do all calls that ask it.
func checked(t *testing.T, what string, is bool, l ...api.Extent) {
	t.Helper()
	want := api.ErrArg
	if is {
		want = api.OK
	}
	if err := Check(l); err != want {
		t.Errorf("%s: Check(%v): %d, want %d", what, l, err, want)
	}
	if is != (Need(l) >= 0) {
		t.Errorf("%s: Need(%v): %d", what, l, Need(l))
	}
	if is {
		return
	}
	block, written, there := Find(l, max(0, l[0].At))
	if block != 0 || written || there {
		t.Errorf("%s: Find in %v: %d, %v, %v, want none", what, l, block, written, there)
	}
	got, err := Put(l, api.Extent{At: 250, Start: 900, Len: 1})
	wantError(t, what+": Put", got, err, api.ErrArg)
	got, gone, err := Cut(l, 0, 256)
	wantError(t, what+": Cut", got, err, api.ErrArg)
	wantSpans(t, what+": Cut", gone)
	got, err = Mark(l, 0, 256)
	wantError(t, what+": Mark", got, err, api.ErrArg)
	for n := range 4 {
		if root, nodes, err := Store(l, blocksFor(n)); len(root) != 0 || len(nodes) != 0 || err != api.ErrArg {
			t.Errorf("%s: Store(%v, %d blocks): %x, %x, %d", what, l, n, root, nodes, err)
		}
	}
}

func TestOneExtentAtItsEdges(t *testing.T) {
	for at, is := range map[int]bool{-1: false, 0: true, 255: true, 256: false, 257: false} {
		checked(t, "At", is, written(at, 50, 1))
		checked(t, "At", is, unwritten(at, 50, 1))
	}
	for start, is := range map[int]bool{-1: false, 0: false, 1: true, 1023: true, 1024: false, 1025: false} {
		checked(t, "Start", is, written(7, start, 1))
	}
	for n, is := range map[int]bool{-1: false, 0: false, 1: true, 256: true, 257: false} {
		checked(t, "Len", is, written(0, 50, n))
	}
	for n, is := range map[int]bool{6: true, 7: false} {
		checked(t, "At + Len", is, written(250, 50, n)) // 256 and 257
		checked(t, "Start + Len", is, written(0, 1018, n))
	}
	checked(t, "the whole file", true, written(0, 768, 256))
	checked(t, "one beyond the device", false, written(0, 769, 256))
}

func TestExtentsFarBeyond(t *testing.T) {
	for _, v := range far() {
		checked(t, "At", false, written(v, 50, 1))
		checked(t, "Start", false, written(7, v, 1))
		checked(t, "Len", false, written(7, 50, v))
		checked(t, "At and Len", false, written(v, 50, -v), written(7, 60, 1))
		checked(t, "Start and Len", false, written(7, v, -v))
		checked(t, "all", false, written(v, v, v))
		checked(t, "behind one that may be", false, written(0, 50, 1), written(v, 60, 1))
		// Their sums pass the greatest int, and are small again.
		checked(t, "At + Len", false, written(v, 50, math.MaxInt-v+5))
		checked(t, "Start + Len", false, written(7, v, math.MaxInt-v+5))
	}
	checked(t, "sums beyond all", false, written(1, 1, math.MaxInt))
	checked(t, "sums beyond all", false, written(math.MaxInt, math.MaxInt, math.MaxInt))
	checked(t, "sums beyond all", false, written(math.MinInt, math.MinInt, math.MinInt))
	checked(t, "sums that are 0", false, written(0, math.MinInt, math.MinInt))
}

func TestListsOfManyLengths(t *testing.T) {
	for n := range 62 {
		checked(t, "spaced", n <= 60, spaced(n)...)
	}
	checked(t, "nil", true, nil...)
	checked(t, "empty", true, []api.Extent{}...)
	if err := Check(make([]api.Extent, 1<<20)); err != api.ErrArg {
		t.Errorf("Check of a long list: %d", err)
	}
}

func TestNeighbours(t *testing.T) {
	first := written(2, 50, 3)
	checked(t, "goes on in the file alone", true, first, written(5, 60, 1))
	checked(t, "goes on in the file, one block further on the device", true, first, written(5, 54, 1))
	checked(t, "goes on in the file, ahead on the device", true, first, written(5, 49, 1))
	checked(t, "goes on on the device alone", true, first, written(6, 53, 1))
	checked(t, "goes on in both", false, first, written(5, 53, 1))
	checked(t, "goes on in both, another Unwritten", true, first, unwritten(5, 53, 1))
	checked(t, "goes on in both, both Unwritten", false, unwritten(2, 50, 3), unwritten(5, 53, 1))
	checked(t, "goes on in both, the first Unwritten", true, unwritten(2, 50, 3), next(first))
	checked(t, "goes on in neither", true, first, written(9, 90, 1))
	checked(t, "the last of three goes on", false, written(0, 9, 1), first, next(first))
	checked(t, "goes on where one that isn't its neighbour ends", true, first, written(5, 70, 1), written(6, 53, 1))
}

// next: a written block that goes on behind e.
func next(e api.Extent) api.Extent { return written(e.At+e.Len, e.Start+e.Len, 1) }

func TestOrder(t *testing.T) {
	checked(t, "a block of the file in common", false, written(2, 50, 3), written(4, 60, 1))
	checked(t, "the same At", false, written(2, 50, 1), written(2, 60, 1))
	checked(t, "not in order", false, written(2, 50, 1), written(0, 60, 1))
	checked(t, "in order but ahead of the end", false, written(2, 50, 9), written(3, 70, 1), written(20, 80, 1))
	checked(t, "the third ahead of the second", false, written(0, 50, 1), written(9, 60, 1), written(5, 70, 1))
}

func TestBlocksOfTheDeviceInCommon(t *testing.T) {
	for _, start := range []int{48, 49, 50, 51, 52, 53} {
		is := start == 48 || start == 53
		checked(t, "neighbours", is, written(0, 50, 3), written(10, start, 2))
		checked(t, "far off", is, written(0, 50, 3), written(10, 900, 9), unwritten(20, 800, 1), written(200, start, 2))
		checked(t, "the far one being the last of 60", is, append(spacedWith(50), written(250, start, 2))...)
	}
	checked(t, "one within the other", false, written(0, 50, 9), written(10, 52, 2))
	checked(t, "one round the other", false, written(10, 52, 2), written(20, 50, 9))
	checked(t, "the same", false, written(0, 50, 3), unwritten(10, 50, 3))
}

// spacedWith: 59 extents, of which the first has 3 blocks from start on.
func spacedWith(start int) []api.Extent {
	l := spaced(59)
	for k := range l {
		l[k].Start += 16
	}
	l[0].Start = start
	return l
}

// Short lists of extents round the edges, each with each.
func TestPairs(t *testing.T) {
	var some []api.Extent
	for _, at := range []int{-1, 0, 1, 2, 3, 255, 256} {
		for _, start := range []int{0, 1, 2, 3, 4, 1023, 1024} {
			for _, n := range []int{-1, 0, 1, 2} {
				some = append(some, written(at, start, n), unwritten(at, start, n))
			}
		}
	}
	for _, x := range some {
		wantAll(t, list(x))
		for _, y := range some {
			wantAll(t, list(x, y))
		}
	}
}

// P10.1: Find.

func TestFind(t *testing.T) {
	l := list(written(0, 50, 2), unwritten(5, 100, 3), written(8, 103, 1), written(255, 7, 1))
	for at, want := range map[int]int{-1: 0, 0: 50, 1: 51, 2: 0, 4: 0, 5: 100, 6: 101, 7: 102, 8: 103, 9: 0, 254: 0, 255: 7, 256: 0} {
		block, written, is := Find(l, at)
		if block != want || is != (want != 0) || written != (is && (want < 100 || want > 102)) {
			t.Errorf("Find %d: %d, %v, %v, want %d", at, block, written, is, want)
		}
	}
	for _, at := range append(far(), near()...) {
		wantFind(t, l, at)
		wantFind(t, nil, at)
		wantFind(t, list(written(0, 1, 256)), at)
		wantFind(t, spaced(60), at)
		wantFind(t, spaced(61), at)
	}
}

// P10.1: Put.

func TestPutJoins(t *testing.T) {
	l := list(written(0, 50, 2), written(4, 54, 2))
	for _, c := range []struct {
		e    api.Extent
		want []api.Extent
	}{
		{written(2, 52, 2), list(written(0, 50, 6))}, // two become one
		{unwritten(2, 52, 2), list(written(0, 50, 2), unwritten(2, 52, 2), written(4, 54, 2))},
		{written(2, 52, 1), list(written(0, 50, 3), written(4, 54, 2))},
		{written(3, 53, 1), list(written(0, 50, 2), written(3, 53, 3))},
		{written(2, 53, 1), list(written(0, 50, 2), written(2, 53, 1), written(4, 54, 2))},
		{written(3, 52, 1), list(written(0, 50, 2), written(3, 52, 1), written(4, 54, 2))},
		{written(2, 60, 2), list(written(0, 50, 2), written(2, 60, 2), written(4, 54, 2))},
		{written(6, 56, 1), list(written(0, 50, 2), written(4, 54, 3))},
		{unwritten(6, 56, 1), list(written(0, 50, 2), written(4, 54, 2), unwritten(6, 56, 1))},
		{written(7, 56, 1), list(written(0, 50, 2), written(4, 54, 2), written(7, 56, 1))},
		{written(6, 49, 1), list(written(0, 50, 2), written(4, 54, 2), written(6, 49, 1))},
		{written(6, 56, 250), list(written(0, 50, 2), written(4, 54, 252))},
	} {
		got, err := Put(l, c.e)
		wantList(t, "Put", got, err, c.want...)
	}
	got, err := Put(nil, unwritten(0, 1, 256))
	wantList(t, "Put to nothing", got, err, unwritten(0, 1, 256))
	got, err = Put(list(unwritten(3, 40, 1)), unwritten(0, 37, 3))
	wantList(t, "Put ahead", got, err, unwritten(0, 37, 4))
}

func TestPutRefuses(t *testing.T) {
	l := list(written(2, 50, 3), written(200, 900, 3))
	for what, e := range map[string]api.Extent{
		"the first block of the file":     written(1, 70, 2),
		"the last block of the file":      written(4, 70, 2),
		"all blocks of the file":          written(0, 70, 9),
		"a block far off":                 unwritten(202, 70, 1),
		"the first block of the device":   written(20, 49, 2),
		"the last block of the device":    written(20, 52, 2),
		"all blocks of the device":        written(20, 45, 20),
		"a block of the device far off":   written(0, 901, 1),
		"one that is there":               written(2, 50, 3),
		"one that is there, but no write": unwritten(200, 900, 3),
	} {
		got, err := Put(l, e)
		wantError(t, what, got, err, api.ErrExist)
	}
	for _, e := range list(written(-1, 70, 2), written(256, 70, 1), written(20, 0, 1), written(20, 1024, 1), written(20, 70, 0), written(250, 70, 7), written(20, 1020, 5)) {
		got, err := Put(l, e)
		wantError(t, "an extent that may not be", got, err, api.ErrArg)
	}
	for _, v := range far() {
		for _, e := range list(written(v, 70, 1), written(20, v, 1), written(20, 70, v), written(v, 70, -v), written(20, v, math.MaxInt-v+5), written(v, v, v)) {
			got, err := Put(l, e)
			wantError(t, "an extent far beyond", got, err, api.ErrArg)
			got, err = Put(nil, e)
			wantError(t, "an extent far beyond", got, err, api.ErrArg)
		}
	}
}

// Where several errors apply the first one is told.
func TestPutTellsTheFirstError(t *testing.T) {
	full, wrong := spaced(60), spaced(61)
	got, err := Put(wrong, written(0, 1020, 1))
	wantError(t, "ErrArg ahead of ErrExist", got, err, api.ErrArg)
	got, err = Put(full, written(255, 1, 2))
	wantError(t, "ErrArg ahead of ErrSpace", got, err, api.ErrArg)
	got, err = Put(full, written(0, 0, 1))
	wantError(t, "ErrArg ahead of ErrExist", got, err, api.ErrArg)
	got, err = Put(full, written(0, 1, 1))
	wantError(t, "ErrExist ahead of ErrSpace, in the file", got, err, api.ErrExist)
	got, err = Put(full, written(250, 1020, 1))
	wantError(t, "ErrExist ahead of ErrSpace, on the device", got, err, api.ErrExist)
}

func TestPutToAFullList(t *testing.T) {
	full := spaced(60)
	got, err := Put(full, written(250, 1, 1))
	wantError(t, "a 61st", got, err, api.ErrSpace)
	got, err = Put(full, unwritten(3, full[0].Start+3, 1))
	wantError(t, "a 61st of another Unwritten", got, err, api.ErrSpace)
	got, err = Put(spaced(59), written(250, 1, 1))
	wantList(t, "the 60th", got, err, append(spaced(59), written(250, 1, 1))...)
	for k, x := range full {
		want := slices.Clone(full)
		want[k].Len++
		e := x
		e.At, e.Start, e.Len = x.At+x.Len, x.Start+x.Len, 1
		got, err = Put(full, e)
		wantList(t, "one that goes on", got, err, want...)
	}
	got, err = Put(full, written(239, full[59].Start+3, 17))
	wantError(t, "one that goes on, and lies where another one does", got, err, api.ErrExist)
	full[58].Start = 1
	want := slices.Clone(full)
	want[59].Len = 20
	got, err = Put(full, written(239, full[59].Start+3, 17))
	wantList(t, "one that goes on up to the file's end", got, err, want...)
}

// P10.1: Cut.

func TestCut(t *testing.T) {
	l := list(written(2, 50, 5), unwritten(7, 55, 5), written(20, 900, 1), written(21, 10, 4))
	span := func(start, n int) api.Span { return api.Span{Start: start, Len: n} }
	for _, c := range []struct {
		from, to int
		want     []api.Extent
		gone     []api.Span
	}{
		{0, 0, l, nil},
		{0, 2, l, nil},
		{4, 4, l, nil},
		{7, 7, l, nil},
		{12, 20, l, nil},
		{25, 256, l, nil},
		{256, math.MaxInt, l, nil},
		{math.MaxInt, math.MaxInt, l, nil},
		{2, 3, list(written(3, 51, 4), l[1], l[2], l[3]), []api.Span{span(50, 1)}},
		{6, 7, list(written(2, 50, 4), l[1], l[2], l[3]), []api.Span{span(54, 1)}},
		{4, 5, list(written(2, 50, 2), written(5, 53, 2), l[1], l[2], l[3]), []api.Span{span(52, 1)}},
		{2, 7, l[1:], []api.Span{span(50, 5)}},
		{0, 7, l[1:], []api.Span{span(50, 5)}},
		{6, 8, list(written(2, 50, 4), unwritten(8, 56, 4), l[2], l[3]), []api.Span{span(54, 1), span(55, 1)}},
		{3, 22, list(written(2, 50, 1), written(22, 11, 3)), []api.Span{span(51, 4), span(55, 5), span(900, 1), span(10, 1)}},
		{0, 256, nil, []api.Span{span(50, 5), span(55, 5), span(900, 1), span(10, 4)}},
		{0, math.MaxInt, nil, []api.Span{span(50, 5), span(55, 5), span(900, 1), span(10, 4)}},
		{8, math.MaxInt, list(l[0], unwritten(7, 55, 1)), []api.Span{span(56, 4), span(900, 1), span(10, 4)}},
		{24, math.MaxInt, list(l[0], l[1], l[2], written(21, 10, 3)), []api.Span{span(13, 1)}},
	} {
		got, gone, err := Cut(l, c.from, c.to)
		wantList(t, "Cut", got, err, c.want...)
		wantSpans(t, "Cut", gone, c.gone...)
	}
	got, gone, err := Cut(nil, 0, 256)
	wantList(t, "Cut of nothing", got, err)
	wantSpans(t, "Cut of nothing", gone)
}

// wrongBounds: bounds that no part has.
func wrongBounds() [][2]int {
	return [][2]int{{-1, -1}, {-1, 0}, {-1, 5}, {5, 4}, {1, 0}, {0, -1}, {256, 255}, {math.MinInt, math.MaxInt}, {math.MaxInt, math.MinInt}, {math.MinInt, math.MinInt}, {math.MaxInt, math.MaxInt - 1}, {math.MinInt, 0}, {0, math.MinInt}}
}

func TestWrongBounds(t *testing.T) {
	for _, l := range [][]api.Extent{nil, list(written(0, 50, 9)), spaced(60), spaced(61)} {
		for _, b := range wrongBounds() {
			got, gone, err := Cut(l, b[0], b[1])
			wantError(t, "Cut", got, err, api.ErrArg)
			wantSpans(t, "Cut", gone)
			got, err = Mark(l, b[0], b[1])
			wantError(t, "Mark", got, err, api.ErrArg)
		}
	}
}

func TestCutOfAFullList(t *testing.T) {
	full := spaced(60)
	for k, x := range full {
		got, gone, err := Cut(full, x.At+1, x.At+2)
		wantError(t, "one in two, of 60", got, err, api.ErrSpace)
		wantSpans(t, "one in two, of 60", gone)
		got, gone, err = Cut(full, x.At, x.At+1)
		want := slices.Clone(full)
		want[k].At, want[k].Start, want[k].Len = x.At+1, x.Start+1, 2
		wantList(t, "one end, of 60", got, err, want...)
		wantSpans(t, "one end, of 60", gone, api.Span{Start: x.Start, Len: 1})
		got, gone, err = Cut(full, x.At+1, x.At+1)
		wantList(t, "none, of 60", got, err, full...)
		wantSpans(t, "none, of 60", gone)
	}
	got, _, err := Cut(spaced(59), 1, 2)
	wantList(t, "one in two, of 59", got, err, append(list(written(0, 1020, 1), written(2, 1022, 1)), spaced(59)[1:]...)...)
	got, _, err = Cut(full, 1, 238)
	wantList(t, "all but two ends", got, err, written(0, 1020, 1), api.Extent{At: 238, Start: full[59].Start + 2, Len: 1, Unwritten: full[59].Unwritten})
}

// P10.1: Mark.

func TestMark(t *testing.T) {
	l := list(written(0, 50, 2), unwritten(2, 52, 4), written(6, 56, 1), unwritten(7, 90, 1), unwritten(20, 100, 9))
	for _, c := range []struct {
		from, to int
		want     []api.Extent
	}{
		{0, 0, l},
		{3, 3, l},
		{0, 2, l},
		{8, 20, l},
		{29, 256, l},
		{math.MaxInt, math.MaxInt, l},
		{2, 6, list(written(0, 50, 7), l[3], l[4])},
		{0, 7, list(written(0, 50, 7), l[3], l[4])},
		{2, 3, list(written(0, 50, 3), unwritten(3, 53, 3), l[2], l[3], l[4])},
		{5, 6, list(l[0], unwritten(2, 52, 3), written(5, 55, 2), l[3], l[4])},
		{3, 5, list(l[0], unwritten(2, 52, 1), written(3, 53, 2), unwritten(5, 55, 1), l[2], l[3], l[4])},
		{7, 8, list(l[0], l[1], l[2], written(7, 90, 1), l[4])},
		{22, 24, list(l[0], l[1], l[2], l[3], unwritten(20, 100, 2), written(22, 102, 2), unwritten(24, 104, 5))},
		{28, math.MaxInt, list(l[0], l[1], l[2], l[3], unwritten(20, 100, 8), written(28, 108, 1))},
		{0, math.MaxInt, list(written(0, 50, 7), written(7, 90, 1), written(20, 100, 9))},
	} {
		got, err := Mark(l, c.from, c.to)
		wantList(t, "Mark", got, err, c.want...)
	}
	got, err := Mark(nil, 0, 256)
	wantList(t, "Mark of nothing", got, err)
}

func TestMarkOfAFullList(t *testing.T) {
	for n, want := range map[int]api.Errno{58: api.OK, 59: api.ErrSpace, 60: api.ErrSpace} {
		l := spaced(n)
		got, err := Mark(l, 5, 6) // the second one becomes three
		if err != want || (len(got) == n+2) != (err == api.OK) || err != api.OK && len(got) != 0 {
			t.Errorf("one in three, of %d: %d extents, error %d, want error %d", n, len(got), err, want)
		}
	}
	for n, want := range map[int]api.Errno{59: api.OK, 60: api.ErrSpace} {
		for _, at := range []int{4, 6} {
			got, err := Mark(spaced(n), at, at+1) // an end of it
			if err != want || (len(got) == n+1) != (err == api.OK) || err != api.OK && len(got) != 0 {
				t.Errorf("one in two, of %d: %d extents, error %d, want error %d", n, len(got), err, want)
			}
		}
	}
	full := spaced(60)
	want := slices.Clone(full)
	for k := range want {
		want[k].Unwritten = false
	}
	got, err := Mark(full, 0, 256)
	wantList(t, "all, of 60", got, err, want...)
	got, err = Mark(full, 0, 3)
	wantList(t, "what is written, of 60", got, err, full...)
	got, err = Mark(full, 5, 5)
	wantList(t, "none, of 60", got, err, full...)
}

// One extent in many that are put together: the list passes 60 on the way, but not at the end.
func TestMarkPutsManyTogether(t *testing.T) {
	var l []api.Extent
	for k := range 60 {
		l = append(l, api.Extent{At: 4 * k, Start: 1 + 4*k, Len: 4, Unwritten: k%2 == 1})
	}
	got, err := Mark(l, 0, 240)
	wantList(t, "all", got, err, written(0, 1, 240))
	got, err = Mark(l, 4, 7)
	wantList(t, "one end, next to a written one", got, err, append(list(written(0, 1, 7), unwritten(7, 8, 1)), l[2:]...)...)
	got, err = Mark(l, 5, 7)
	wantError(t, "the midst", got, err, api.ErrSpace)
	got, err = Mark(l, 5, 12)
	wantList(t, "the midst and on", got, err, append(list(l[0], unwritten(4, 5, 1), written(5, 6, 7)), l[3:]...)...)
	got, err = Mark(l, 5, 14)
	wantList(t, "from one midst to the next", got, err, append(list(l[0], unwritten(4, 5, 1), written(5, 6, 9), unwritten(14, 15, 2)), l[4:]...)...)
}

// P10.1: all short lists, with all short extents and bounds.

// shortLists: all right lists of the file's blocks below 4 and the device's from 1 to 4.
func shortLists() [][]api.Extent {
	lists := [][]api.Extent{nil}
	var p places
	var from func(at int)
	from = func(at int) {
		if at == 4 {
			lists = append(lists, plainList(p))
			return
		}
		from(at + 1)
		for block := 1; block <= 4; block++ {
			if p[0].block == block || p[1].block == block || p[2].block == block {
				continue
			}
			for _, unwritten := range []bool{false, true} {
				p[at] = place{block, unwritten}
				from(at + 1)
			}
			p[at] = place{}
		}
	}
	from(0)
	return lists
}

func TestShortLists(t *testing.T) {
	for _, l := range shortLists() {
		wantAll(t, l)
		for from := -1; from <= 6; from++ {
			wantFind(t, l, from)
			for to := -1; to <= 6; to++ {
				wantCut(t, l, from, to)
				wantMark(t, l, from, to)
			}
		}
	}
}

func TestPutToShortLists(t *testing.T) {
	for _, l := range shortLists() {
		for at := -1; at <= 5; at++ {
			for start := range 7 {
				for n := range 4 {
					wantPut(t, l, written(at, start, n))
					wantPut(t, l, unwritten(at, start, n))
				}
			}
		}
	}
}
