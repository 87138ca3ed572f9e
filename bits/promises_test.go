package bits

import (
	"bytes"
	"math"
	"math/rand"
	"testing"
)

// samples: the shapes, and any maps.
func samples(seed int64) [][]byte {
	r := rand.New(rand.NewSource(seed))
	l := shapes()
	for range 100 {
		l = append(l, anyMap(r, 9))
	}
	return l
}

// around: numbers from a bit of the least ones ahead of a map to some behind its end.
func around(m []byte) (int, int) { return -9, 8*len(m) + 9 }

// wantTurned: got is as long as m, the bits from from to to - 1 are v in it where they are there, all others as in m.
func wantTurned(t *testing.T, what string, m, got []byte, from, to int, v bool) {
	t.Helper()
	if len(got) != len(m) {
		t.Fatalf("%s: %x has become %d bytes", what, m, len(got))
	}
	least, most := around(m)
	for i := least; i < most; i++ {
		want := Get(m, i)
		if i >= from && i < to && i >= 0 && i < 8*len(m) {
			want = v
		}
		if Get(got, i) != want {
			t.Errorf("%s: %x with %d to %d being %v: %x: bit %d is %v", what, m, from, to-1, v, got, i, !want)
		}
	}
}

// P7.2: Put and Fill.

func TestPutTurnsThatBitAlone(t *testing.T) {
	for _, m := range samples(1) {
		least, most := around(m)
		for i := least; i < most; i++ {
			for _, v := range []bool{false, true} {
				wantTurned(t, "Put", m, Put(m, i, v), i, i+1, v)
			}
		}
		for _, i := range []int{math.MinInt, math.MaxInt, math.MaxInt - 1} {
			if !bytes.Equal(Put(m, i, true), m) || !bytes.Equal(Put(m, i, false), m) {
				t.Errorf("Put(%x, %d) turns a bit", m, i)
			}
		}
	}
}

func TestFillTurnsThoseBitsAlone(t *testing.T) {
	r := rand.New(rand.NewSource(2))
	for _, m := range samples(2) {
		for range 60 {
			from, to := anyPart(r, m)
			for _, v := range []bool{false, true} {
				wantTurned(t, "Fill", m, Fill(m, from, to, v), from, to, v)
			}
		}
	}
}

// A Fill of bits that are v already changes nothing; so does a second one.
func TestFillOfWhatIsSoAlready(t *testing.T) {
	r := rand.New(rand.NewSource(3))
	for _, m := range samples(3) {
		for range 30 {
			from, to := anyPart(r, m)
			for _, v := range []bool{false, true} {
				once := Fill(m, from, to, v)
				if !bytes.Equal(Fill(once, from, to, v), once) {
					t.Errorf("%x, %d, %d, %v: the second Fill turns a bit", m, from, to, v)
				}
				if First(once, from, to, !v) != -1 {
					t.Errorf("%x, %d, %d, %v: a bit is left behind Fill: %x", m, from, to, v, once)
				}
				if First(m, from, to, !v) == -1 && !bytes.Equal(once, m) {
					t.Errorf("%x, %d, %d, %v: Fill of bits that are so turns one: %x", m, from, to, v, once)
				}
			}
		}
	}
}

// A Fill is undone by putting back the bits that were there, one by one.
func TestFillUndone(t *testing.T) {
	r := rand.New(rand.NewSource(4))
	for _, m := range samples(4) {
		for range 10 {
			from, to := anyPart(r, m)
			for _, v := range []bool{false, true} {
				got := Fill(m, from, to, v)
				for i := max(from, 0); i < min(to, 8*len(m)); i++ {
					got = Put(got, i, Get(m, i))
				}
				if !bytes.Equal(got, m) {
					t.Errorf("%x, %d, %d, %v: %x behind putting back", m, from, to, v, got)
				}
			}
		}
	}
}

// A Fill is the Puts of its bits, and two Fills side by side are the one of both.
func TestFillInParts(t *testing.T) {
	r := rand.New(rand.NewSource(5))
	for _, m := range samples(5) {
		from, to := anyPart(r, m)
		for _, v := range []bool{false, true} {
			whole := Fill(m, from, to, v)
			puts := m
			for i := max(from, 0); i < min(to, 8*len(m)); i++ {
				puts = Put(puts, i, v)
			}
			if !bytes.Equal(puts, whole) {
				t.Errorf("%x, %d, %d, %v: Fill %x, Puts %x", m, from, to, v, whole, puts)
			}
			for split := max(from, -3); split <= min(to, 8*len(m)+3); split++ {
				if got := Fill(Fill(m, split, to, v), from, split, v); !bytes.Equal(got, whole) {
					t.Errorf("%x, %d, %d, %d, %v: in parts %x, whole %x", m, from, split, to, v, got, whole)
				}
			}
		}
	}
}

// P7.2: Count.

// A Count split at each place adds up.
func TestCountsOfPartsAddUp(t *testing.T) {
	r := rand.New(rand.NewSource(6))
	for _, m := range samples(6) {
		least, most := around(m)
		for k := range 20 {
			from, to := anyPart(r, m)
			if k == 0 {
				from, to = math.MinInt, math.MaxInt
			}
			whole := Count(m, from, to)
			for split := max(from, least); split <= min(to, most); split++ {
				if a, b := Count(m, from, split), Count(m, split, to); a+b != whole {
					t.Errorf("%x, %d, %d: %d, but split at %d: %d and %d", m, from, to, whole, split, a, b)
				}
			}
		}
	}
}

// The Counts of single bits are their worth; those behind a Fill with 1s are as many bits as there are.
func TestCountOfBits(t *testing.T) {
	for _, m := range samples(7) {
		least, most := around(m)
		n := 0
		for i := least; i < most; i++ {
			one := Count(m, i, i+1)
			if one != 0 && one != 1 || (one == 1) != Get(m, i) {
				t.Errorf("%x: Count of bit %d: %d", m, i, one)
			}
			n += one
			if got := Count(m, math.MinInt, i+1); got != n {
				t.Errorf("%x: Count to %d: %d, want %d", m, i, got, n)
			}
			if got := Count(Fill(m, least, i+1, true), least, i+1); got != min(max(i+1, 0), 8*len(m)) {
				t.Errorf("%x: Count to %d behind Fill: %d", m, i, got)
			}
			if got := Count(Fill(m, least, i+1, false), least, i+1); got != 0 {
				t.Errorf("%x: Count to %d behind Fill with 0s: %d", m, i, got)
			}
		}
	}
}

// P7.2: First.

func TestFirstIsTheFirst(t *testing.T) {
	r := rand.New(rand.NewSource(8))
	for _, m := range samples(8) {
		for range 40 {
			from, to := anyPart(r, m)
			for _, v := range []bool{false, true} {
				got := First(m, from, to, v)
				ahead := got
				if got == -1 {
					ahead = to
				} else if got < from || got >= to || got < 0 || got >= 8*len(m) || Get(m, got) != v {
					t.Errorf("First(%x, %d, %d, %v): %d isn't there, or not so", m, from, to, v, got)
				}
				for i := max(from, 0); i < min(ahead, 8*len(m)); i++ {
					if Get(m, i) == v {
						t.Errorf("First(%x, %d, %d, %v): %d, but %d is so", m, from, to, v, got, i)
					}
				}
			}
		}
	}
}

// P7.2: Longest.

func TestLongestIsFreeAndNoRunIsLonger(t *testing.T) {
	r := rand.New(rand.NewSource(9))
	for _, m := range samples(9) {
		for range 40 {
			from, to := anyPart(r, m)
			at, n := Longest(m, from, to)
			if n == 0 {
				if at != -1 || First(m, from, to, false) != -1 {
					t.Errorf("Longest(%x, %d, %d): %d, 0", m, from, to, at)
				}
				continue
			}
			if n < 0 || at < max(from, 0) || at+n > min(to, 8*len(m)) || First(m, at, at+n, true) != -1 {
				t.Errorf("Longest(%x, %d, %d): %d, %d: isn't there, or isn't free", m, from, to, at, n)
			}
			run := 0
			for i := max(from, 0); i < min(to, 8*len(m)); i++ {
				run++
				if Get(m, i) {
					run = 0
				}
				if run > n || run == n && i-run+1 < at {
					t.Errorf("Longest(%x, %d, %d): %d, %d: another of %d ends at %d", m, from, to, at, n, run, i)
				}
			}
		}
	}
}

// P7.3: what is handed in is not changed, and an answer is new memory.

// withSpare: m in the midst of more bytes, which stand ahead of it and in its spare room.
func withSpare(m []byte) (all, part []byte) {
	all = bytes.Repeat([]byte{0x5a}, len(m)+32)
	copy(all[8:], m)
	return all, all[8 : 8+len(m)]
}

// calls: each call once, of the map and the part; the answers that are maps.
func calls(m []byte, from, to int) [][]byte {
	Get(m, from)
	Count(m, from, to)
	First(m, from, to, true)
	First(m, from, to, false)
	Longest(m, from, to)
	return [][]byte{Put(m, from, true), Put(m, from, false), Fill(m, from, to, true), Fill(m, from, to, false)}
}

func TestNothingHandedInIsChanged(t *testing.T) {
	r := rand.New(rand.NewSource(10))
	for _, shape := range samples(10) {
		for range 20 {
			all, m := withSpare(shape)
			want := bytes.Clone(all)
			from, to := anyPart(r, m)
			calls(m, from, to)
			if !bytes.Equal(all, want) {
				t.Fatalf("%x, %d, %d: changed, or its spare room, or what is ahead of it", shape, from, to)
			}
		}
	}
}

// scribble: turns all bytes of l, its spare room's too.
func scribble(l []byte) {
	l = l[:cap(l)]
	for k := range l {
		l[k] ^= 0xff
	}
}

// An answer that is changed behind the call, also in its spare room, changes neither the map nor another answer.
func TestAnswersAreNewMemory(t *testing.T) {
	r := rand.New(rand.NewSource(11))
	for _, shape := range samples(11) {
		for range 10 {
			all, m := withSpare(shape)
			want := bytes.Clone(all)
			from, to := anyPart(r, m)
			answers, same := calls(m, from, to), calls(m, from, to)
			for k, got := range answers {
				if len(got) != len(m) {
					t.Fatalf("%x, %d, %d: answer %d has %d bytes", m, from, to, k, len(got))
				}
				scribble(got)
				if !bytes.Equal(all, want) {
					t.Fatalf("%x, %d, %d: answer %d shares memory with the map", shape, from, to, k)
				}
				for i := range same {
					if i > k && !bytes.Equal(answers[i], same[i]) {
						t.Fatalf("%x, %d, %d: answers %d and %d share memory", shape, from, to, k, i)
					}
				}
			}
			for k, got := range calls(m, from, to) {
				if !bytes.Equal(got, same[k]) {
					t.Fatalf("%x, %d, %d: another answer %d behind the first one's being changed", shape, from, to, k)
				}
			}
		}
	}
}

// A map that is changed behind the call changes no answer.
func TestNothingHandedInIsKept(t *testing.T) {
	r := rand.New(rand.NewSource(12))
	for _, shape := range samples(12) {
		for range 10 {
			all, m := withSpare(shape)
			from, to := anyPart(r, m)
			answers := calls(m, from, to)
			want := calls(bytes.Clone(m), from, to)
			scribble(all)
			for k := range answers {
				if !bytes.Equal(answers[k], want[k]) {
					t.Fatalf("%x, %d, %d: answer %d has changed with the map", shape, from, to, k)
				}
			}
			wantPart(t, m, from, to) // what is asked now is answered of the map as it is now
		}
	}
}
