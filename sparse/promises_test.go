package sparse

import (
	"math/rand"
	"slices"
	"strings"
	"testing"

	"undercroft/api"
)

// samples: right lists, so many of them by chance.
func samples(seed int64, many int) [][]api.Run {
	r := rand.New(rand.NewSource(seed))
	all := rightLists()
	for range many {
		all = append(all, anyList(r))
	}
	return all
}

// everything: what Bytes reads of all of l.
func everything(t *testing.T, l []api.Run) string {
	t.Helper()
	data, err := Bytes(l, 0, size)
	if err != api.OK || len(data) != size {
		t.Fatalf("Bytes of all of %q: %d bytes, error %d", toldList(l), len(data), err)
	}
	return data
}

// room: a place of a content for n bytes, often at a list's bounds.
func room(r *rand.Rand, l []api.Run, n int) int {
	return max(0, min(anyPlace(r, l), size-n))
}

// P15.2: what is Put is read by Bytes, all else as ahead; what is Zeroed is read as 0, all else as ahead.

func TestWhatIsPutIsRead(t *testing.T) {
	r := rand.New(rand.NewSource(154))
	for _, l := range samples(1, 3000) {
		was := everything(t, l)
		data := anyData(r, anyMost(r))
		at := room(r, l, len(data))
		out, err := Put(l, at, data)
		if err != api.OK || Check(out) != api.OK {
			t.Fatalf("Put(%q, %d, %q): %q, error %d", toldList(l), at, told(data), toldList(out), err)
		}
		if is := everything(t, out); is != was[:at]+data+was[at+len(data):] {
			t.Fatalf("Put(%q, %d, %q): %q, which reads otherwise", toldList(l), at, told(data), toldList(out))
		}
	}
}

func TestWhatIsZeroedIsReadAs0(t *testing.T) {
	r := rand.New(rand.NewSource(155))
	for _, l := range samples(2, 3000) {
		was := everything(t, l)
		n := r.Intn(anyMost(r) + 1)
		from := room(r, l, n)
		out, err := Zero(l, from, from+n)
		if err != api.OK || Check(out) != api.OK {
			t.Fatalf("Zero(%q, %d, %d): %q, error %d", toldList(l), from, from+n, toldList(out), err)
		}
		if is := everything(t, out); is != was[:from]+noughts(n)+was[from+n:] {
			t.Fatalf("Zero(%q, %d, %d): %q, which reads otherwise", toldList(l), from, from+n, toldList(out))
		}
		if same, err := Put(l, from, noughts(n)); err != api.OK || !slices.Equal(same, out) {
			t.Fatalf("Zero(%q, %d, %d) and Put of 0 there differ", toldList(l), from, from+n)
		}
	}
}

// Any calls, one behind the other, the list of each being what the last one told; each place is read by itself too.
func TestLives(t *testing.T) {
	r := rand.New(rand.NewSource(156))
	for range 150 {
		content := make([]byte, size)
		var l []api.Run
		most := anyMost(r)
		for range 60 {
			var err api.Errno
			data := anyData(r, most)
			at := room(r, l, len(data))
			what := "Put"
			if r.Intn(3) == 0 {
				what, data = "Zero", noughts(len(data))
				l, err = Zero(l, at, at+len(data))
			} else {
				l, err = Put(l, at, data)
			}
			copy(content[at:], data)
			wantRuns(t, what, l, err, plainRuns(content)...)
			if everything(t, l) != string(content) {
				t.Fatalf("%s at %d: %q reads otherwise", what, at, toldList(l))
			}
			for k := max(0, at-3); k < min(size, at+len(data)+3); k += 1 + len(data)/20 {
				if data, err := Bytes(l, k, 1); err != api.OK || data != string(content[k:k+1]) {
					t.Fatalf("Bytes(%q, %d, 1): %q, error %d, want %q", toldList(l), k, data, err, content[k:k+1])
				}
			}
			wantEnd(t, l)
		}
	}
}

// Each place of a content by itself, and each two halves: what is read in parts is what is read at once.
func TestReadInParts(t *testing.T) {
	r := rand.New(rand.NewSource(157))
	for _, l := range samples(3, 300) {
		whole := everything(t, l)
		for range 20 {
			n := anyMost(r)
			at := room(r, l, n)
			if data, err := Bytes(l, at, n); err != api.OK || data != whole[at:at+n] {
				t.Fatalf("Bytes(%q, %d, %d): %q, error %d", toldList(l), at, n, told(data), err)
			}
		}
	}
	l := list(run(0, "a"), run(2, letters("b", 300)), run(5000, "c"), run(65535, "d"))
	whole := everything(t, l)
	for at := range size {
		if data, err := Bytes(l, at, 1); err != api.OK || data != whole[at:at+1] {
			t.Fatalf("Bytes(%q, %d, 1): %q, error %d", toldList(l), at, data, err)
		}
	}
}

// P15.2: two right lists that read the same everywhere are the same: however a content was made, its list is the same.

func TestReadTheSameAreTheSame(t *testing.T) {
	r := rand.New(rand.NewSource(158))
	for _, l := range samples(4, 600) {
		whole := everything(t, l)
		same, err := Of(whole)
		wantRuns(t, "Of what is read", same, err, l...)
		same, err = Of(whole[:End(l)])
		wantRuns(t, "Of what is read up to End", same, err, l...)

		same = list(run(0, letters("o", 65536)))
		for at := 0; at < size; {
			n := min(1+r.Intn(20000), size-at)
			same, err = Put(same, at, whole[at:at+n])
			if err != api.OK {
				t.Fatalf("Put at %d: error %d", at, err)
			}
			at += n
		}
		wantRuns(t, "Put in parts", same, err, l...)
	}
}

// All lists of a few short runs: of each content just one is right.
func TestOneListForEachContent(t *testing.T) {
	var runs []api.Run
	for at := range 5 {
		for _, data := range []string{"", "a", "aa", "aaa", "aaaa", "aaaaa", "\x00", "a\x00a"} {
			runs = append(runs, run(at, data))
		}
	}
	lists := [][]api.Run{nil}
	for from := 0; len(lists[from]) < 3; from++ {
		for _, more := range runs {
			lists = append(lists, append(slices.Clone(lists[from]), more))
		}
	}
	met := map[string][]api.Run{}
	for _, l := range lists {
		data, err := Bytes(l, 0, 10)
		if err != api.OK {
			continue
		}
		if other, ok := met[data]; ok {
			t.Fatalf("%q and %q read the same, and both are right", toldList(l), toldList(other))
		}
		met[data] = l
	}
	want := 0 // contents of a and 0 whose runs of a begin at 0 to 4, are of up to 5, and at most 3
	for mask := range 1 << 9 {
		var b []byte
		for k := range 9 {
			b = append(b, "\x00a"[mask>>k&1])
		}
		l := plainRuns(b)
		if len(l) <= 3 && !slices.ContainsFunc(l, func(r api.Run) bool { return r.At > 4 || len(r.Data) > 5 }) {
			want++
		}
	}
	if len(met) != want {
		t.Errorf("%d contents, want %d", len(met), want)
	}
}

// A call with an error leaves what was there.
func TestACallThatIsRefused(t *testing.T) {
	l := list(run(1, "ab"), run(65535, "z"))
	was := everything(t, l)
	Put(l, 65535, "xy")
	Put(l, -1, "x")
	Zero(l, 3, 2)
	Bytes(l, 1, size)
	if everything(t, l) != was {
		t.Errorf("%q is changed", toldList(l))
	}
}

// P15.3 and P1: what is handed in is not changed, and an answer is new memory.

// withRoom: l in the midst of more runs, which stand ahead of it and in its spare room.
func withRoom(l []api.Run) (whole, part []api.Run) {
	whole = slices.Concat(list(run(-5, "ahead"), run(0, "also")), l, list(run(3, "behind"), run(60000, "also"), run(9, "")))
	return whole, whole[2 : 2+len(l)]
}

// scrawl: changes all runs of l, its spare room's too.
func scrawl(l []api.Run) {
	l = l[:cap(l)]
	for k := range l {
		l[k] = run(-9, "scrawled")
	}
}

func TestNothingHandedInIsChanged(t *testing.T) {
	r := rand.New(rand.NewSource(159))
	for k, l := range samples(5, 4000) {
		if k%3 == 0 {
			l = broken(r, l)
		}
		whole, part := withRoom(l)
		were := slices.Clone(whole)
		at, n := anyPlace(r, l), anyPlace(r, l)
		Check(part)
		End(part)
		Bytes(part, at, n)
		Put(part, at, anyData(r, anyMost(r)))
		Zero(part, min(at, n), max(at, n))
		if !slices.Equal(whole, were) {
			t.Fatalf("a call with %q changes the list, or its room, or what is ahead of it", toldList(l))
		}
	}
}

// turns: lists that the calls tell of l.
func turns(l []api.Run) map[string]func() ([]api.Run, api.Errno) {
	all := map[string]func() ([]api.Run, api.Errno){
		"Put of nothing":    func() ([]api.Run, api.Errno) { return Put(l, 0, "") },
		"Put of 0 behind":   func() ([]api.Run, api.Errno) { return Put(l, 65535, "\x00") },
		"Put at 0":          func() ([]api.Run, api.Errno) { return Put(l, 0, "xyz") },
		"Put in the midst":  func() ([]api.Run, api.Errno) { return Put(l, 3, "x\x00y") },
		"Put at the end":    func() ([]api.Run, api.Errno) { return Put(l, 65535, "x") },
		"Zero of nothing":   func() ([]api.Run, api.Errno) { return Zero(l, 2, 2) },
		"Zero beyond":       func() ([]api.Run, api.Errno) { return Zero(l, 65536, 65540) },
		"Zero at 0":         func() ([]api.Run, api.Errno) { return Zero(l, 0, 2) },
		"Zero in the midst": func() ([]api.Run, api.Errno) { return Zero(l, 3, 9) },
		"Zero of all":       func() ([]api.Run, api.Errno) { return Zero(l, 0, 65536) },
	}
	for _, data := range []string{"a\x00bc", "", "\x00\x00x"} {
		all["Of "+data] = func() ([]api.Run, api.Errno) { return Of(data) }
	}
	return all
}

// An answer that is changed behind the call, also in its spare room, changes neither what was handed in nor another answer.
func TestAnswersAreNewMemory(t *testing.T) {
	for _, l := range samples(6, 150) {
		whole, part := withRoom(l)
		were := slices.Clone(whole)
		for what, turn := range turns(part) {
			first, err := turn()
			want := slices.Clone(first)
			second, _ := turn()
			scrawl(first)
			if !slices.Equal(whole, were) {
				t.Fatalf("%s of %q: the answer shares memory with the list", what, toldList(l))
			}
			if third, again := turn(); !slices.Equal(second, want) || !slices.Equal(third, want) || again != err {
				t.Fatalf("%s of %q: answers share memory", what, toldList(l))
			}
		}
	}
}

// A list that is changed behind the call changes no answer, and what is asked then is answered of it as it is then.
func TestNothingHandedInIsKept(t *testing.T) {
	for _, l := range samples(7, 150) {
		for what, turn := range turns(l) {
			want, _ := turn()
			part := slices.Clone(l)
			got, _ := turns(part)[what]()
			scrawl(part)
			if !slices.Equal(got, want) {
				t.Fatalf("%s of %q: the answer changes with the list", what, toldList(l))
			}
		}
		part := slices.Clone(l)
		everything(t, part)
		if len(part) > 0 {
			part[len(part)-1].Data = "\x00"
			wantAll(t, part, 0, 5, "ab")
			scrawl(part)
			wantAll(t, part, 0, 5, "ab")
		}
	}
}

// Equal arguments get equal answers, whatever spare room they have and whatever was asked between.
func TestAgain(t *testing.T) {
	r := rand.New(rand.NewSource(160))
	for _, l := range samples(8, 600) {
		at, n := anyNumber(r, l), anyNumber(r, l)
		data := anyData(r, anyMost(r))
		wantAll(t, l, at, n, data)
		Of("x\x00y")
		Put(nil, 3, "q")
		Zero(list(run(0, "abc")), 1, 2)
		Bytes(list(run(1, "")), 0, 9)
		End(list(run(7, "z")))
		Check(list(run(7, "\x00")))
		roomy := append(make([]api.Run, 0, len(l)+9), l...)
		for k := range roomy {
			roomy[k].Data = strings.Clone(roomy[k].Data)
		}
		wantAll(t, roomy, at, n, strings.Clone(data))
		wantOf(t, strings.Clone(data))
	}
}

// A list of none may be nil or empty.
func TestNilIsEmpty(t *testing.T) {
	for _, l := range [][]api.Run{nil, {}, make([]api.Run, 0, 9), list(run(-1, "a"))[:0]} {
		wantAll(t, l, 3, 9, "ab")
		wantAll(t, l, 0, 0, "")
		wantAll(t, l, -1, 65537, letters("x", 65537))
		if everything(t, l) != noughts(size) || End(l) != 0 || Check(l) != api.OK {
			t.Errorf("no runs are no list of nothing")
		}
	}
}
