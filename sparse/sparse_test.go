package sparse

import (
	"math"
	"math/rand"
	"slices"
	"strings"
	"testing"

	"undercroft/api"
)

// P15.1: the document's examples.

func TestExamples(t *testing.T) {
	l, err := Of("a\x00bc")
	wantRuns(t, "Of a 0 bc", l, err, run(0, "a"), run(2, "bc"))
	l, err = Put(l, 1, "xy")
	wantRuns(t, "with xy at 1", l, err, run(0, "axyc"))
	l, err = Zero(l, 1, 2)
	wantRuns(t, "with 0 at 1", l, err, run(0, "a"), run(2, "yc"))
	if data, err := Bytes(l, 0, 5); data != "a\x00yc\x00" || err != api.OK {
		t.Errorf("Bytes 0 to 4: %q, error %d", data, err)
	}
	if end := End(l); end != 4 {
		t.Errorf("End: %d", end)
	}
	for _, l := range [][]api.Run{nil, l} {
		out, err := Put(l, 65535, "zz")
		wantError(t, "two bytes at 65535", out, err, api.ErrBig)
	}
}

// P15.1: lists that are right, and lists that aren't.

func TestRightLists(t *testing.T) {
	for _, l := range rightLists() {
		if err := Check(l); err != api.OK {
			t.Errorf("Check(%q): error %d", toldList(l), err)
		}
		wantAll(t, l, 0, size, "ab")
	}
}

func TestWrongLists(t *testing.T) {
	for _, l := range wrongLists() {
		if err := Check(l); err != api.ErrArg {
			t.Errorf("Check(%q): error %d", toldList(l), err)
		}
		if end := End(l); end != 0 {
			t.Errorf("End(%q): %d", toldList(l), end)
		}
		if data, err := Bytes(l, 0, 0); data != "" || err != api.ErrArg {
			t.Errorf("Bytes(%q, 0, 0): %q, error %d", toldList(l), told(data), err)
		}
		out, err := Put(l, 0, "")
		wantError(t, "Put to a list that isn't right", out, err, api.ErrArg)
		out, err = Zero(l, 0, 0)
		wantError(t, "Zero of a list that isn't right", out, err, api.ErrArg)
		out, err = Zero(l, 0, math.MaxInt)
		wantError(t, "Zero of all of a list that isn't right", out, err, api.ErrArg)
		wantAll(t, l, 0, size, "ab")
	}
}

// One run at each edge, of each length at the edges.
func TestOneRunAtItsEdges(t *testing.T) {
	for _, at := range edges() {
		for _, n := range []int{0, 1, 2, 3, 65533, 65534, 65535, 65536, 65537} {
			l := list(run(at, letters("r", n)))
			wantCheck(t, l)
			wantEnd(t, l)
		}
	}
}

// Two runs at all distances from one another.
func TestTwoRuns(t *testing.T) {
	for _, base := range []int{0, 100, 65526} {
		for first := range 10 {
			for second := range 12 {
				for _, a := range []string{"", "a", "ab", "abc"} {
					for _, b := range []string{"", "c", "cd", "c\x00"} {
						wantCheck(t, list(run(base+first, a), run(base+second, b)))
					}
				}
			}
		}
	}
}

// Each byte at each place of a run: 0 alone may not be.
func TestEachByteInARun(t *testing.T) {
	for b := range 256 {
		for _, data := range []string{string([]byte{byte(b)}), string([]byte{byte(b), 'x'}), string([]byte{'x', byte(b), 'y'}), string([]byte{'x', byte(b)})} {
			want := api.OK
			if b == 0 {
				want = api.ErrArg
			}
			for _, l := range [][]api.Run{list(run(9, data)), list(run(0, "q"), run(9, data)), list(run(9, data), run(20, "q"))} {
				if err := Check(l); err != want {
					t.Errorf("Check(%q): error %d, want %d", toldList(l), err, want)
				}
			}
			wantOf(t, data)
		}
	}
}

// P15.1: Of.

func TestTheseOf(t *testing.T) {
	for _, c := range []struct {
		data string
		want []api.Run
	}{
		{"", nil},
		{"\x00", nil},
		{noughts(65536), nil},
		{"a", list(run(0, "a"))},
		{"a\x00", list(run(0, "a"))},
		{"\x00a", list(run(1, "a"))},
		{"\x00a\x00", list(run(1, "a"))},
		{"a\x00b", list(run(0, "a"), run(2, "b"))},
		{"\x00\x00ab\x00\x00\x00c\x00", list(run(2, "ab"), run(7, "c"))},
		{noughts(65535) + "z", list(run(65535, "z"))},
		{"a" + noughts(65534) + "z", list(run(0, "a"), run(65535, "z"))},
		{"a" + noughts(65535), list(run(0, "a"))},
		{letters("x", 65536), list(run(0, letters("x", 65536)))},
		{letters("x", 65535), list(run(0, letters("x", 65535)))},
		{letters("x", 40000) + "\x00" + letters("y", 25535), list(run(0, letters("x", 40000)), run(40001, letters("y", 25535)))},
		{"\xff\x01\x80\x00\xc3\xa9 0", list(run(0, "\xff\x01\x80"), run(4, "\xc3\xa9 0"))},
		{letters("e\x00", 65536/2), everyOther()},
	} {
		l, err := Of(c.data)
		wantRuns(t, "Of "+told(c.data), l, err, c.want...)
		wantOf(t, c.data)
	}
}

func TestOfTooMuch(t *testing.T) {
	for _, data := range []string{noughts(65537), letters("x", 65537), letters("x", 65536) + "\x00", "\x00" + letters("x", 65536), noughts(65536) + "x", letters("x", 200000)} {
		l, err := Of(data)
		wantError(t, "Of too much", l, err, api.ErrBig)
	}
}

// All short data, at the beginning and behind 0.
func TestOfAllShortData(t *testing.T) {
	for n := range 9 {
		for _, data := range masks(n) {
			wantOf(t, data)
		}
	}
	for _, data := range masks(5) {
		wantOf(t, noughts(65531)+data)
		wantOf(t, noughts(65532)+data)
		wantOf(t, data+noughts(65531))
		wantOf(t, data+noughts(65532))
	}
}

// P15.1: Bytes.

func TestTheseBytes(t *testing.T) {
	l := list(run(2, "ab"), run(6, "c"), run(65534, "yz"))
	for _, c := range []struct {
		at, n int
		want  string
	}{
		{0, 0, ""}, {2, 0, ""}, {65536, 0, ""}, {65535, 0, ""},
		{0, 1, "\x00"}, {2, 1, "a"}, {3, 1, "b"}, {4, 1, "\x00"}, {65535, 1, "z"},
		{0, 2, "\x00\x00"}, {0, 3, "\x00\x00a"}, {0, 8, "\x00\x00ab\x00\x00c\x00"},
		{3, 3, "b\x00\x00"}, {3, 4, "b\x00\x00c"}, {4, 2, "\x00\x00"}, {4, 4, "\x00\x00c\x00"},
		{65533, 3, "\x00yz"}, {65534, 2, "yz"}, {65534, 1, "y"}, {65530, 5, "\x00\x00\x00\x00y"},
		{0, 65536, "\x00\x00ab\x00\x00c" + noughts(65527) + "yz"},
		{1, 65535, "\x00ab\x00\x00c" + noughts(65527) + "yz"},
		{3, 65532, "b\x00\x00c" + noughts(65527) + "y"},
	} {
		if data, err := Bytes(l, c.at, c.n); data != c.want || err != api.OK {
			t.Errorf("Bytes(%q, %d, %d): %q, error %d", toldList(l), c.at, c.n, told(data), err)
		}
	}
}

// All short contents, near the beginning, in the midst and up to the end, and all bounds round them.
func TestBytesOfAllShortContents(t *testing.T) {
	for _, base := range []int{0, 100, 65531} {
		for _, data := range masks(5) {
			l, err := plainPut(nil, base, data)
			if err != api.OK {
				t.Fatal(err)
			}
			for from := max(base-1, 0); from <= min(base+6, size); from++ {
				for to := from; to <= min(base+6, size); to++ {
					want := ""
					for k := from; k < to; k++ {
						if base <= k && k < base+5 {
							want += data[k-base : k-base+1]
						} else {
							want += "\x00"
						}
					}
					if got, err := Bytes(l, from, to-from); got != want || err != api.OK {
						t.Errorf("Bytes(%q, %d, %d): %q, error %d", toldList(l), from, to-from, got, err)
					}
				}
			}
		}
	}
}

// P15.1: numbers at all edges, each with each, of right lists and of others.
func TestNumbersAtTheirEdges(t *testing.T) {
	lists := [][]api.Run{nil, list(run(0, "a"), run(65535, "b")), list(run(0, letters("x", 65536))), list(run(0, "")), list(run(-1, "ab"))}
	for _, l := range lists {
		for _, a := range edges() {
			for _, b := range edges() {
				wantBytes(t, l, a, b)
				wantZero(t, l, a, b)
			}
			for _, n := range []int{0, 1, 2, 3, 65535, 65536, 65537, 131072} {
				wantPut(t, l, a, letters("p", n))
				wantPut(t, l, a, noughts(n))
			}
		}
	}
}

// P15.1: the errors in their order: what is wrong with a list or a number is told ahead of places beyond.
func TestErrorsInTheirOrder(t *testing.T) {
	wrong := list(run(0, "a"), run(1, "b"))
	long := letters("p", 65537)
	for _, c := range []struct {
		l     []api.Run
		at, n int
		want  api.Errno
	}{
		{nil, -1, 65537, api.ErrArg}, {nil, 65537, -1, api.ErrArg}, {wrong, 65537, 65537, api.ErrArg}, {wrong, -1, 0, api.ErrArg}, {wrong, 0, 65537, api.ErrArg},
		{nil, math.MaxInt, math.MinInt, api.ErrArg}, {nil, math.MinInt, math.MaxInt, api.ErrArg}, {nil, math.MinInt, math.MinInt, api.ErrArg},
		{nil, 65537, 0, api.ErrBig}, {nil, 0, 65537, api.ErrBig}, {nil, 65536, 1, api.ErrBig}, {nil, 1, 65536, api.ErrBig}, {nil, 65535, 2, api.ErrBig}, {nil, 32768, 32769, api.ErrBig},
		{nil, math.MaxInt, math.MaxInt, api.ErrBig}, {nil, 1, math.MaxInt, api.ErrBig}, {nil, math.MaxInt, 1, api.ErrBig}, {nil, 65536, math.MaxInt, api.ErrBig}, {nil, math.MaxInt, 0, api.ErrBig},
	} {
		if data, err := Bytes(c.l, c.at, c.n); data != "" || err != c.want {
			t.Errorf("Bytes(%q, %d, %d): %q, error %d, want %d", toldList(c.l), c.at, c.n, told(data), err, c.want)
		}
	}
	for _, c := range []struct {
		l    []api.Run
		at   int
		data string
		want api.Errno
	}{
		{nil, -1, long, api.ErrArg}, {wrong, 0, long, api.ErrArg}, {wrong, 65537, "", api.ErrArg}, {wrong, -1, long, api.ErrArg}, {nil, math.MinInt, "", api.ErrArg}, {nil, -65536, long, api.ErrArg},
		{nil, 0, long, api.ErrBig}, {nil, 65537, "", api.ErrBig}, {nil, 65536, "a", api.ErrBig}, {nil, 65536, "\x00", api.ErrBig}, {nil, 1, long[1:], api.ErrBig}, {nil, 65535, "\x00\x00", api.ErrBig},
		{nil, math.MaxInt, "", api.ErrBig}, {nil, math.MaxInt, "a", api.ErrBig}, {nil, math.MaxInt, long, api.ErrBig},
	} {
		out, err := Put(c.l, c.at, c.data)
		wantError(t, "Put", out, err, c.want)
	}
	for _, c := range []struct {
		l        []api.Run
		from, to int
	}{
		{nil, -1, 0}, {nil, -1, -1}, {nil, -2, -1}, {nil, 1, 0}, {nil, 0, -1}, {nil, 65537, 65536}, {nil, math.MaxInt, math.MaxInt - 1}, {nil, math.MaxInt, math.MinInt}, {nil, math.MinInt, math.MaxInt}, {wrong, 0, 1}, {wrong, 1, 0}, {wrong, -1, 0},
	} {
		out, err := Zero(c.l, c.from, c.to)
		wantError(t, "Zero", out, err, api.ErrArg)
	}
}

// P15.1: Put.

func TestThesePuts(t *testing.T) {
	two := list(run(2, "ab"), run(6, "cd"))
	for _, c := range []struct {
		l    []api.Run
		at   int
		data string
		want []api.Run
	}{
		{nil, 0, "", nil},
		{nil, 65536, "", nil},
		{nil, 0, "\x00", nil},
		{nil, 0, "a", list(run(0, "a"))},
		{nil, 65535, "a", list(run(65535, "a"))},
		{nil, 9, "\x00a\x00b\x00", list(run(10, "a"), run(12, "b"))},
		{nil, 0, letters("x", 65536), list(run(0, letters("x", 65536)))},
		{nil, 1, letters("x", 65535), list(run(1, letters("x", 65535)))},
		{two, 0, "", two},
		{two, 3, "", two},
		{two, 7, "", two},
		{two, 65536, "", two},
		{two, 4, "xy", list(run(2, "abxycd"))},
		{two, 4, "x", list(run(2, "abx"), run(6, "cd"))},
		{two, 5, "x", list(run(2, "ab"), run(5, "xcd"))},
		{two, 1, "x", list(run(1, "xab"), run(6, "cd"))},
		{two, 0, "x", list(run(0, "x"), run(2, "ab"), run(6, "cd"))},
		{two, 8, "x", list(run(2, "ab"), run(6, "cdx"))},
		{two, 9, "x", list(run(2, "ab"), run(6, "cd"), run(9, "x"))},
		{two, 3, "\x00", list(run(2, "a"), run(6, "cd"))},
		{two, 2, "\x00", list(run(3, "b"), run(6, "cd"))},
		{two, 2, "\x00\x00", list(run(6, "cd"))},
		{two, 3, "\x00\x00\x00\x00", list(run(2, "a"), run(7, "d"))},
		{two, 4, "\x00\x00", two},
		{two, 3, "x\x00\x00y", list(run(2, "ax"), run(6, "yd"))},
		{two, 3, "xyzv", list(run(2, "axyzvd"))},
		{two, 0, "0123456789", list(run(0, "0123456789"))},
		{two, 0, noughts(10), nil},
		{two, 0, noughts(65536), nil},
		{two, 2, "ab", two},
		{two, 65535, "z", append(slices.Clone(two), run(65535, "z"))},
		{list(run(0, "abcdef")), 2, "\x00\x00", list(run(0, "ab"), run(4, "ef"))},
		{list(run(0, "abcdef")), 2, "x\x00", list(run(0, "abx"), run(4, "ef"))},
		{list(run(0, "abcdef")), 2, "xy", list(run(0, "abxyef"))},
		{list(run(65534, "yz")), 65535, "\x00", list(run(65534, "y"))},
		{list(run(65534, "yz")), 65533, "xYZ", list(run(65533, "xYZ"))},
		{list(run(0, letters("x", 65536))), 1, "\x00", list(run(0, "x"), run(2, letters("x", 65534)))},
		{list(run(0, letters("x", 32768)), run(32769, letters("x", 32767))), 32768, "x", list(run(0, letters("x", 65536)))},
		{everyOther(), 0, letters("f", 65536), list(run(0, letters("f", 65536)))},
	} {
		out, err := Put(c.l, c.at, c.data)
		wantRuns(t, "Put of "+told(c.data), out, err, c.want...)
	}
	wantPut(t, everyOther(), 1, letters("f\x00", 32767))
	wantPut(t, everyOther(), 1, letters("f", 65535))
	wantPut(t, everyOther(), 2, letters("f\x00\x00", 20000))
}

// All short contents, near the beginning, in the midst and up to the end: each with each short data at each place.
func TestPutToAllShortContents(t *testing.T) {
	for _, base := range []int{0, 100, 65531} {
		for _, content := range masks(5) {
			l, _ := plainPut(nil, base, content)
			for at := max(base-1, 0); at <= min(base+6, size+1); at++ {
				for n := range 4 {
					for _, data := range masks(n) {
						wantPut(t, l, at, strings.ToUpper(data))
					}
				}
			}
		}
	}
}

// P15.1: Zero.

func TestTheseZeros(t *testing.T) {
	two := list(run(2, "ab"), run(6, "cde"))
	for _, c := range []struct {
		l        []api.Run
		from, to int
		want     []api.Run
	}{
		{nil, 0, 0, nil}, {nil, 0, 65536, nil}, {nil, 65536, 65536, nil}, {nil, 65537, 65537, nil}, {nil, 0, math.MaxInt, nil}, {nil, math.MaxInt, math.MaxInt, nil},
		{two, 0, 0, two}, {two, 3, 3, two}, {two, 7, 7, two}, {two, 65536, 65536, two}, {two, 65536, 70000, two}, {two, 65537, 65538, two}, {two, math.MaxInt, math.MaxInt, two}, {two, 65537, math.MaxInt, two},
		{two, 0, 2, two}, {two, 4, 6, two}, {two, 4, 5, two}, {two, 9, 65536, two}, {two, 9, math.MaxInt, two},
		{two, 0, 3, list(run(3, "b"), run(6, "cde"))},
		{two, 2, 3, list(run(3, "b"), run(6, "cde"))},
		{two, 3, 4, list(run(2, "a"), run(6, "cde"))},
		{two, 3, 6, list(run(2, "a"), run(6, "cde"))},
		{two, 2, 4, list(run(6, "cde"))},
		{two, 0, 6, list(run(6, "cde"))},
		{two, 3, 7, list(run(2, "a"), run(7, "de"))},
		{two, 7, 8, list(run(2, "ab"), run(6, "c"), run(8, "e"))},
		{two, 8, 65536, list(run(2, "ab"), run(6, "cd"))},
		{two, 8, math.MaxInt, list(run(2, "ab"), run(6, "cd"))},
		{two, 3, 65537, list(run(2, "a"))},
		{two, 6, 9, list(run(2, "ab"))},
		{two, 2, 9, nil}, {two, 0, 65536, nil}, {two, 0, 65537, nil}, {two, 0, math.MaxInt, nil}, {two, 1, 10, nil},
		{list(run(65534, "yz")), 65535, 65536, list(run(65534, "y"))},
		{list(run(65534, "yz")), 65534, 65535, list(run(65535, "z"))},
		{list(run(65534, "yz")), 65536, 65537, list(run(65534, "yz"))},
		{list(run(0, letters("x", 65536))), 0, 65535, list(run(65535, "x"))},
		{list(run(0, letters("x", 65536))), 1, 65536, list(run(0, "x"))},
		{list(run(0, letters("x", 65536))), 30000, 30001, list(run(0, letters("x", 30000)), run(30001, letters("x", 35535)))},
		{everyOther(), 1, 65534, list(run(0, "e"), run(65534, "e"))},
		{everyOther(), 0, 65536, nil},
	} {
		out, err := Zero(c.l, c.from, c.to)
		wantRuns(t, "Zero", out, err, c.want...)
	}
}

func TestZeroOfAllShortContents(t *testing.T) {
	for _, base := range []int{0, 100, 65531} {
		for _, content := range masks(5) {
			l, _ := plainPut(nil, base, content)
			for from := base - 1; from <= base+7; from++ {
				for to := from - 1; to <= base+8; to++ {
					wantZero(t, l, from, to)
				}
				wantZero(t, l, from, math.MaxInt)
				wantZero(t, l, 0, from)
			}
		}
	}
}

// P15.1: End.

func TestTheseEnds(t *testing.T) {
	for _, c := range []struct {
		l    []api.Run
		want int
	}{
		{nil, 0}, {list(run(0, "a")), 1}, {list(run(9, "abc")), 12}, {list(run(0, "a"), run(2, "bc")), 4}, {list(run(65535, "a")), 65536}, {list(run(65534, "a")), 65535},
		{list(run(0, letters("x", 65536))), 65536}, {list(run(0, letters("x", 65535))), 65535}, {everyOther(), 65535},
		{list(run(9, "abc"), run(12, "d")), 0}, {list(run(9, "")), 0}, {list(run(9, "a\x00")), 0}, {list(run(65535, "ab")), 0}, {list(run(-1, "abc")), 0}, {list(run(5, "a"), run(2, "b")), 0}, {list(run(math.MaxInt, "a")), 0},
	} {
		if end := End(c.l); end != c.want {
			t.Errorf("End(%q): %d, want %d", toldList(c.l), end, c.want)
		}
	}
}

// P15.1: any lists, numbers and bytes, held against the document's words.

func TestAnyRightLists(t *testing.T) {
	r := rand.New(rand.NewSource(151))
	for range 2000 {
		l := anyList(r)
		wantAll(t, l, anyNumber(r, l), anyNumber(r, l), anyData(r, anyMost(r)))
		at := max(0, min(anyPlace(r, l), size))
		wantAll(t, l, at, r.Intn(size-at+1), anyData(r, size-at))
	}
}

func TestAnyListsAtAll(t *testing.T) {
	r := rand.New(rand.NewSource(152))
	for range 6000 {
		l := broken(r, anyList(r))
		wantAll(t, l, anyNumber(r, l), anyNumber(r, l), anyData(r, anyMost(r)))
	}
}

func TestAnyData(t *testing.T) {
	r := rand.New(rand.NewSource(153))
	for range 4000 {
		wantOf(t, anyData(r, anyMost(r)))
	}
	for range 400 {
		wantOf(t, anyData(r, size+100))
	}
}
