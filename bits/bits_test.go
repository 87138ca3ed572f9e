package bits

import (
	"bytes"
	"math"
	"math/rand"
	"testing"
)

// P7.1: every call answers as said.

func TestExamples(t *testing.T) {
	m := []byte{0x06}
	for i, want := range map[int]bool{1: true, 2: true, 0: false, 8: false, -1: false} {
		if v := Get(m, i); v != want {
			t.Errorf("Get(%d): %v", i, v)
		}
	}
	if n := Count(m, 0, 8); n != 2 {
		t.Errorf("Count: %d", n)
	}
	if i := First(m, 0, 8, false); i != 0 {
		t.Errorf("First 0 from 0: %d", i)
	}
	if i := First(m, 1, 8, false); i != 3 {
		t.Errorf("First 0 from 1: %d", i)
	}
	if i := First(m, 3, 8, true); i != -1 {
		t.Errorf("First 1 from 3: %d", i)
	}
	if at, n := Longest(m, 0, 8); at != 3 || n != 5 {
		t.Errorf("Longest: %d, %d", at, n)
	}
	if got := Fill(m, 6, 10, true); !bytes.Equal(got, []byte{0xc6}) {
		t.Errorf("Fill: %x", got)
	}
}

// The lowest and the highest bit of a byte, the last one of a map, those around it.
func TestGetAndPutAtTheEdges(t *testing.T) {
	m := []byte{0x81, 0x00, 0x80}
	for _, want := range []struct {
		i     int
		v     bool
		set   string
		unset string
	}{
		{-1, false, "\x81\x00\x80", "\x81\x00\x80"},
		{0, true, "\x81\x00\x80", "\x80\x00\x80"},
		{1, false, "\x83\x00\x80", "\x81\x00\x80"},
		{7, true, "\x81\x00\x80", "\x01\x00\x80"},
		{8, false, "\x81\x01\x80", "\x81\x00\x80"},
		{15, false, "\x81\x80\x80", "\x81\x00\x80"},
		{16, false, "\x81\x00\x81", "\x81\x00\x80"},
		{23, true, "\x81\x00\x80", "\x81\x00\x00"},
		{24, false, "\x81\x00\x80", "\x81\x00\x80"},
		{31, false, "\x81\x00\x80", "\x81\x00\x80"},
		{-8, false, "\x81\x00\x80", "\x81\x00\x80"},
		{-23, false, "\x81\x00\x80", "\x81\x00\x80"},
		{math.MinInt, false, "\x81\x00\x80", "\x81\x00\x80"},
		{math.MaxInt, false, "\x81\x00\x80", "\x81\x00\x80"},
		{1 << 32, false, "\x81\x00\x80", "\x81\x00\x80"},
		{1<<32 + 7, false, "\x81\x00\x80", "\x81\x00\x80"},
	} {
		if v := Get(m, want.i); v != want.v {
			t.Errorf("Get(%d): %v", want.i, v)
		}
		if got := Put(m, want.i, true); string(got) != want.set {
			t.Errorf("Put(%d, true): %x, want %x", want.i, got, want.set)
		}
		if got := Put(m, want.i, false); string(got) != want.unset {
			t.Errorf("Put(%d, false): %x, want %x", want.i, got, want.unset)
		}
	}
}

func TestPartsAtTheEdges(t *testing.T) {
	m := []byte{0x00, 0xff, 0x0f} // 0s: 0 to 7 and 20 to 23
	for _, want := range []struct {
		from, to              int
		count, zero, one      int
		longest, many         int
		filled, cleared, what string
	}{
		{0, 24, 12, 0, 8, 0, 8, "\xff\xff\xff", "\x00\x00\x00", "all"},
		{-1, 25, 12, 0, 8, 0, 8, "\xff\xff\xff", "\x00\x00\x00", "one more at both ends"},
		{math.MinInt, math.MaxInt, 12, 0, 8, 0, 8, "\xff\xff\xff", "\x00\x00\x00", "all numbers"},
		{5, math.MaxInt, 12, 5, 8, 20, 4, "\xe0\xff\xff", "\x00\x00\x00", "to the greatest"},
		{math.MinInt, 21, 12, 0, 8, 0, 8, "\xff\xff\x1f", "\x00\x00\x00", "from the least"},
		{7, 8, 0, 7, -1, 7, 1, "\x80\xff\x0f", "\x00\xff\x0f", "the highest bit of a byte"},
		{8, 9, 1, -1, 8, -1, 0, "\x00\xff\x0f", "\x00\xfe\x0f", "the lowest bit of a byte"},
		{7, 9, 1, 7, 8, 7, 1, "\x80\xff\x0f", "\x00\xfe\x0f", "both, side by side"},
		{8, 16, 8, -1, 8, -1, 0, "\x00\xff\x0f", "\x00\x00\x0f", "a whole byte of 1s"},
		{0, 8, 0, 0, -1, 0, 8, "\xff\xff\x0f", "\x00\xff\x0f", "a whole byte of 0s"},
		{4, 18, 10, 4, 8, 4, 4, "\xf0\xff\x0f", "\x00\x00\x0c", "in the midst"},
		{23, 24, 0, 23, -1, 23, 1, "\x00\xff\x8f", "\x00\xff\x0f", "the last bit"},
		{23, 25, 0, 23, -1, 23, 1, "\x00\xff\x8f", "\x00\xff\x0f", "the last bit and the one behind it"},
		{24, 25, 0, -1, -1, -1, 0, "\x00\xff\x0f", "\x00\xff\x0f", "the one behind the last"},
		{-1, 0, 0, -1, -1, -1, 0, "\x00\xff\x0f", "\x00\xff\x0f", "the one ahead of the first"},
		{-1, 1, 0, 0, -1, 0, 1, "\x01\xff\x0f", "\x00\xff\x0f", "that and the first"},
		{9, 9, 0, -1, -1, -1, 0, "\x00\xff\x0f", "\x00\xff\x0f", "equal"},
		{0, 0, 0, -1, -1, -1, 0, "\x00\xff\x0f", "\x00\xff\x0f", "equal at the beginning"},
		{24, 24, 0, -1, -1, -1, 0, "\x00\xff\x0f", "\x00\xff\x0f", "equal at the end"},
		{10, 9, 0, -1, -1, -1, 0, "\x00\xff\x0f", "\x00\xff\x0f", "to ahead of from, in one byte"},
		{24, 0, 0, -1, -1, -1, 0, "\x00\xff\x0f", "\x00\xff\x0f", "to ahead of from"},
		{math.MaxInt, math.MinInt, 0, -1, -1, -1, 0, "\x00\xff\x0f", "\x00\xff\x0f", "the greatest and the least"},
		{-20, -1, 0, -1, -1, -1, 0, "\x00\xff\x0f", "\x00\xff\x0f", "both below"},
		{math.MinInt, -8, 0, -1, -1, -1, 0, "\x00\xff\x0f", "\x00\xff\x0f", "far below"},
		{30, 99, 0, -1, -1, -1, 0, "\x00\xff\x0f", "\x00\xff\x0f", "both behind"},
		{math.MaxInt - 1, math.MaxInt, 0, -1, -1, -1, 0, "\x00\xff\x0f", "\x00\xff\x0f", "far behind"},
		{math.MinInt, math.MinInt + 1, 0, -1, -1, -1, 0, "\x00\xff\x0f", "\x00\xff\x0f", "the least"},
		{1 << 32, 1<<32 + 24, 0, -1, -1, -1, 0, "\x00\xff\x0f", "\x00\xff\x0f", "behind, but of the same low bits"},
	} {
		if n := Count(m, want.from, want.to); n != want.count {
			t.Errorf("%s: Count: %d, want %d", want.what, n, want.count)
		}
		if i := First(m, want.from, want.to, false); i != want.zero {
			t.Errorf("%s: First 0: %d, want %d", want.what, i, want.zero)
		}
		if i := First(m, want.from, want.to, true); i != want.one {
			t.Errorf("%s: First 1: %d, want %d", want.what, i, want.one)
		}
		if at, n := Longest(m, want.from, want.to); at != want.longest || n != want.many {
			t.Errorf("%s: Longest: %d, %d, want %d, %d", want.what, at, n, want.longest, want.many)
		}
		if got := Fill(m, want.from, want.to, true); string(got) != want.filled {
			t.Errorf("%s: Fill with 1s: %x, want %x", want.what, got, want.filled)
		}
		if got := Fill(m, want.from, want.to, false); string(got) != want.cleared {
			t.Errorf("%s: Fill with 0s: %x, want %x", want.what, got, want.cleared)
		}
	}
}

func TestLongestRuns(t *testing.T) {
	for _, want := range []struct {
		m        string
		from, to int
		at, n    int
		what     string
	}{
		{"\xf8", 0, 8, 0, 3, "begins at the first bit"},
		{"\x1f", 0, 8, 5, 3, "ends at the last bit"},
		{"\xff\x3f\xf0\xff", 0, 32, 14, 6, "goes over a byte's end"},
		{"\x7f\x00\x00\x01\xff", 0, 40, 7, 17, "goes over bytes' ends, and another one is begun behind it"},
		{"\x00\xff\x00", 0, 24, 0, 8, "two of the same length"},
		{"\xe7\xe7\xe7", 0, 24, 3, 2, "three of the same length"},
		{"\xee\xff\xee", 0, 24, 0, 1, "single bits"},
		{"\xfb\xcf\x1f", 0, 24, 21, 3, "each longer than the one ahead"},
		{"\xf1\xf3\xf7", 0, 24, 1, 3, "each shorter than the one ahead"},
		{"\xff\xff\xff", 0, 24, -1, 0, "no 0 at all"},
		{"\xff\x00\xff", 0, 8, -1, 0, "no 0 in the part"},
		{"\xff\x00\xff", 16, 24, -1, 0, "no 0 in another part"},
		{"\x00\x00\x00", 0, 24, 0, 24, "all 0"},
		{"\x00\x00\x00", 3, 21, 3, 18, "cut at both ends"},
		{"\x00\xff\x00", 1, 24, 16, 8, "the first of two is cut"},
		{"\x00\xff\x00", 0, 23, 0, 8, "the second of two is cut"},
		{"\x00\xff\x00", 1, 23, 1, 7, "both are cut alike"},
		{"\x00\xff\x00", -9, 99, 0, 8, "nothing behind the end is a 0"},
		{"\x0f\x80", 0, 99, 4, 11, "what isn't there doesn't make a run longer"},
		{"\x01\x00", 0, 99, 1, 15, "a run that reaches the end is no longer than the map"},
		{"\x00\x80", -99, 16, 0, 15, "nor is one that reaches the beginning"},
		{"", 0, 8, -1, 0, "no bytes"},
	} {
		if at, n := Longest([]byte(want.m), want.from, want.to); at != want.at || n != want.n {
			t.Errorf("%s: Longest(%x, %d, %d): %d, %d, want %d, %d", want.what, want.m, want.from, want.to, at, n, want.at, want.n)
		}
	}
}

// A map of no bytes has no bits, so that all answers are those of nothing.
func TestMapOfNoBytes(t *testing.T) {
	for _, m := range [][]byte{nil, {}, make([]byte, 0, 8)} {
		for _, from := range edges(m) {
			if Get(m, from) || len(Put(m, from, true)) != 0 || len(Put(m, from, false)) != 0 {
				t.Errorf("bit %d", from)
			}
			for _, to := range edges(m) {
				at, n := Longest(m, from, to)
				if Count(m, from, to) != 0 || First(m, from, to, true) != -1 || First(m, from, to, false) != -1 || at != -1 || n != 0 {
					t.Errorf("part %d, %d", from, to)
				}
				if len(Fill(m, from, to, true)) != 0 || len(Fill(m, from, to, false)) != 0 {
					t.Errorf("Fill(%d, %d)", from, to)
				}
			}
		}
	}
}

// First of a map without a 1, and of one without a 0.
func TestFirstWhereThereIsNone(t *testing.T) {
	for n := range 5 {
		zeros, ones := make([]byte, n), bytes.Repeat([]byte{0xff}, n)
		for from := -9; from < 8*n+9; from++ {
			if i := First(zeros, from, math.MaxInt, true); i != -1 {
				t.Errorf("%d bytes 0 from %d: First 1: %d", n, from, i)
			}
			if i := First(ones, from, math.MaxInt, false); i != -1 {
				t.Errorf("%d bytes of 1s from %d: First 0: %d", n, from, i)
			}
		}
	}
}

// All maps of one byte, all parts around them.
func TestEachByte(t *testing.T) {
	for b := range 256 {
		m := []byte{byte(b)}
		for from := -9; from <= 17; from++ {
			wantBit(t, m, from)
			for to := -9; to <= 17; to++ {
				wantPart(t, m, from, to)
			}
		}
	}
}

// All maps of two bytes, some parts.
func TestEachTwoBytes(t *testing.T) {
	parts := [][2]int{{0, 16}, {3, 13}, {math.MinInt, math.MaxInt}}
	for b := range 1 << 16 {
		m := []byte{byte(b), byte(b >> 8)}
		p := parts[b%len(parts)]
		wantPart(t, m, p[0], p[1])
		wantPart(t, m, b%17, 16-b/17%17)
	}
}

// All parts of some maps, also between numbers far off.
func TestEachPart(t *testing.T) {
	for _, m := range shapes() {
		l := edges(m)
		for _, from := range l {
			wantBit(t, m, from)
			for _, to := range l {
				wantPart(t, m, from, to)
			}
		}
	}
}

func TestAnyMaps(t *testing.T) {
	r := rand.New(rand.NewSource(7))
	for range 30000 {
		m := anyMap(r, 20)
		from, to := anyPart(r, m)
		wantPart(t, m, from, to)
		wantBit(t, m, from)
		wantBit(t, m, to)
	}
}

// A map of many bytes: numbers of bits are beyond 16 bits, and each call still ends.
func TestLongMap(t *testing.T) {
	const size = 1 << 20
	m := make([]byte, size)
	if at, n := Longest(m, math.MinInt, math.MaxInt); at != 0 || n != 8*size {
		t.Errorf("Longest of all 0: %d, %d", at, n)
	}
	m[1<<17], m[size-1] = 0x10, 0x80
	split := 8<<17 + 4
	if !Get(m, split) || Get(m, split-1) || Get(m, split+1) || !Get(m, 8*size-1) {
		t.Error("Get")
	}
	if n := Count(m, 0, 8*size); n != 2 {
		t.Errorf("Count: %d", n)
	}
	if i := First(m, 0, math.MaxInt, true); i != split {
		t.Errorf("First 1: %d", i)
	}
	if i := First(m, split+1, math.MaxInt, true); i != 8*size-1 {
		t.Errorf("First 1 behind it: %d", i)
	}
	if at, n := Longest(m, 0, 8*size); at != split+1 || n != 8*size-1-(split+1) {
		t.Errorf("Longest: %d, %d", at, n)
	}
	if n := Count(Fill(m, 3, 8*size-3, true), 0, 8*size); n != 8*size-6+1 {
		t.Errorf("Count behind Fill: %d", n)
	}
	if Get(Put(m, split, false), split) {
		t.Error("Put")
	}
}

// Equal maps, asked the same, answer the same, whatever spare room they have and whatever was asked between.
func TestAgain(t *testing.T) {
	r := rand.New(rand.NewSource(71))
	for range 2000 {
		m := anyMap(r, 8)
		from, to := anyPart(r, m)
		other := append(make([]byte, 0, 64), m...)
		count, first, filled := Count(m, from, to), First(m, from, to, false), Fill(m, from, to, true)
		at, n := Longest(m, from, to)
		wantPart(t, anyMap(r, 8), to, from)
		againAt, againN := Longest(other, from, to)
		if Count(other, from, to) != count || First(other, from, to, false) != first || !bytes.Equal(Fill(other, from, to, true), filled) || againAt != at || againN != n {
			t.Errorf("%x, %d, %d: another answer", m, from, to)
		}
	}
}
