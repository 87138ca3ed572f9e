package sparse

import (
	"cmp"
	"math"
	"math/rand"
	"slices"
	"strconv"
	"strings"
	"testing"

	"undercroft/api"
)

// The document's words once more, as plainly as can be, to hold the package against.

// size: so many places a content has.
const size = 65536

// plainRuns: a content's runs, byte by byte.
func plainRuns(content []byte) []api.Run {
	var l []api.Run
	for k := 0; k < len(content); k++ {
		at := k
		for k < len(content) && content[k] != 0 {
			k++
		}
		if k > at {
			l = append(l, api.Run{At: at, Data: string(content[at:k])})
		}
	}
	return l
}

// plainContent: the content whose runs these are; false: they are no content's.
func plainContent(l []api.Run) ([]byte, bool) {
	content := make([]byte, size)
	for _, run := range l {
		if run.At < 0 || run.At >= size || len(run.Data) > size || run.At+len(run.Data) > size {
			return nil, false
		}
		copy(content[run.At:], run.Data)
	}
	return content, slices.Equal(plainRuns(content), l)
}

func plainCheck(l []api.Run) api.Errno {
	if _, ok := plainContent(l); !ok {
		return api.ErrArg
	}
	return api.OK
}

func plainOf(data string) ([]api.Run, api.Errno) {
	if len(data) > size {
		return nil, api.ErrBig
	}
	content := make([]byte, size)
	copy(content, data)
	return plainRuns(content), api.OK
}

// plainBeyond: n places from at on, of which one is too great, or both are together. Neither is below 0.
func plainBeyond(at, n int) bool { return at > size || n > size || at+n > size }

func plainBytes(l []api.Run, at, n int) (string, api.Errno) {
	content, ok := plainContent(l)
	if !ok || at < 0 || n < 0 {
		return "", api.ErrArg
	}
	if plainBeyond(at, n) {
		return "", api.ErrBig
	}
	return string(content[at : at+n]), api.OK
}

func plainPut(l []api.Run, at int, data string) ([]api.Run, api.Errno) {
	content, ok := plainContent(l)
	if !ok || at < 0 {
		return nil, api.ErrArg
	}
	if plainBeyond(at, len(data)) {
		return nil, api.ErrBig
	}
	for k := range len(data) {
		content[at+k] = data[k]
	}
	return plainRuns(content), api.OK
}

func plainZero(l []api.Run, from, to int) ([]api.Run, api.Errno) {
	content, ok := plainContent(l)
	if !ok || from < 0 || to < from {
		return nil, api.ErrArg
	}
	for k := range content {
		if from <= k && k < to {
			content[k] = 0
		}
	}
	return plainRuns(content), api.OK
}

func plainEnd(l []api.Run) int {
	end := 0
	if content, ok := plainContent(l); ok {
		for k := range content {
			if content[k] != 0 {
				end = k + 1
			}
		}
	}
	return end
}

// told: a text, or its beginning and how long it is.
func told(data string) string {
	if len(data) > 40 {
		return data[:40] + ".."
	}
	return data
}

// toldList: a list's first runs in short, each with its place.
func toldList(l []api.Run) []string {
	var short []string
	for _, run := range l[:min(len(l), 20)] {
		short = append(short, strconv.Itoa(run.At)+" "+told(run.Data))
	}
	return short
}

// wantCheck, wantOf, wantBytes, wantPut, wantZero and wantEnd: the call answers as the document says.

func wantCheck(t *testing.T, l []api.Run) {
	t.Helper()
	if err, wanted := Check(l), plainCheck(l); err != wanted {
		t.Errorf("Check(%q): error %d, want %d", toldList(l), err, wanted)
	}
}

func wantOf(t *testing.T, data string) {
	t.Helper()
	want, wanted := plainOf(data)
	if l, err := Of(data); err != wanted || !slices.Equal(l, want) {
		t.Errorf("Of(%q), %d bytes: %q, error %d, want %q, error %d", told(data), len(data), toldList(l), err, toldList(want), wanted)
	}
}

func wantBytes(t *testing.T, l []api.Run, at, n int) {
	t.Helper()
	want, wanted := plainBytes(l, at, n)
	if data, err := Bytes(l, at, n); err != wanted || data != want {
		t.Errorf("Bytes(%q, %d, %d): %q, error %d, want %q, error %d", toldList(l), at, n, told(data), err, told(want), wanted)
	}
}

func wantPut(t *testing.T, l []api.Run, at int, data string) {
	t.Helper()
	want, wanted := plainPut(l, at, data)
	if out, err := Put(l, at, data); err != wanted || !slices.Equal(out, want) {
		t.Errorf("Put(%q, %d, %q), %d bytes: %q, error %d, want %q, error %d", toldList(l), at, told(data), len(data), toldList(out), err, toldList(want), wanted)
	}
}

func wantZero(t *testing.T, l []api.Run, from, to int) {
	t.Helper()
	want, wanted := plainZero(l, from, to)
	if out, err := Zero(l, from, to); err != wanted || !slices.Equal(out, want) {
		t.Errorf("Zero(%q, %d, %d): %q, error %d, want %q, error %d", toldList(l), from, to, toldList(out), err, toldList(want), wanted)
	}
}

func wantEnd(t *testing.T, l []api.Run) {
	t.Helper()
	if end, want := End(l), plainEnd(l); end != want {
		t.Errorf("End(%q): %d, want %d", toldList(l), end, want)
	}
}

// wantAll: every call with this list, these numbers and these bytes.
func wantAll(t *testing.T, l []api.Run, at, n int, data string) {
	t.Helper()
	wantCheck(t, l)
	wantEnd(t, l)
	wantBytes(t, l, at, n)
	wantPut(t, l, at, data)
	wantZero(t, l, at, n)
}

// wantRuns: an answer is these runs.
func wantRuns(t *testing.T, what string, got []api.Run, err api.Errno, want ...api.Run) {
	t.Helper()
	if err != api.OK || !slices.Equal(got, want) {
		t.Errorf("%s: %q, error %d, want %q", what, toldList(got), err, toldList(want))
	}
}

// wantError: an answer is that error, and no runs.
func wantError(t *testing.T, what string, got []api.Run, err, want api.Errno) {
	t.Helper()
	if err != want || len(got) != 0 {
		t.Errorf("%s: %q, error %d, want error %d", what, toldList(got), err, want)
	}
}

// run and list: short for them.
func run(at int, data string) api.Run     { return api.Run{At: at, Data: data} }
func list(l ...api.Run) []api.Run         { return l }
func noughts(n int) string                { return strings.Repeat("\x00", n) }
func letters(letter string, n int) string { return strings.Repeat(letter, n) }

// rightLists: right lists, up to the edges.
func rightLists() [][]api.Run {
	return [][]api.Run{
		nil,
		list(run(0, "a")),
		list(run(1, "a")),
		list(run(65535, "a")),
		list(run(65534, "ab")),
		list(run(0, letters("x", 65536))),
		list(run(0, letters("x", 65535))),
		list(run(1, letters("x", 65535))),
		list(run(0, "a"), run(2, "b")),
		list(run(0, "a"), run(2, "bc"), run(5, "d")),
		list(run(0, "abc"), run(65535, "z")),
		list(run(7, "\xff\xfe\x01"), run(11, "é"), run(300, "\xc3")),
		list(run(65531, "ab"), run(65534, "cd")),
		list(run(0, letters("p", 32767)), run(32768, letters("q", 32768))),
		everyOther(),
	}
}

// everyOther: as many runs as there may be.
func everyOther() []api.Run {
	var l []api.Run
	for at := 0; at < size; at += 2 {
		l = append(l, run(at, "e"))
	}
	return l
}

// wrongLists: lists that are no content's runs.
func wrongLists() [][]api.Run {
	return [][]api.Run{
		list(run(0, "")),
		list(run(65536, "")),
		list(run(0, "a"), run(2, "")),
		list(run(0, ""), run(2, "a")),
		list(run(0, "a"), run(1, "")),
		list(run(0, "\x00")),
		list(run(0, "a\x00")),
		list(run(0, "\x00a")),
		list(run(0, "a\x00b")),
		list(run(0, "a"), run(3, "b\x00")),
		list(run(0, "a"), run(1, "b")),
		list(run(0, "ab"), run(2, "c")),
		list(run(0, "ab"), run(3, "c"), run(4, "d")),
		list(run(0, "ab"), run(1, "b")),
		list(run(0, "ab"), run(1, "c")),
		list(run(0, "abcd"), run(1, "b")),
		list(run(3, "a"), run(3, "a")),
		list(run(0, "a"), run(2, "b"), run(0, "a")),
		list(run(2, "a"), run(0, "b")),
		list(run(0, "a"), run(9, "b"), run(5, "c")),
		list(run(65536, "a")),
		list(run(65535, "ab")),
		list(run(65534, "abc")),
		list(run(0, letters("x", 65537))),
		list(run(1, letters("x", 65536))),
		list(run(0, "a"), run(2, letters("x", 65535))),
		list(run(65537, "a")),
		list(run(65537, "")),
		list(run(-1, "a")),
		list(run(-1, "ab")),
		list(run(-1, "")),
		list(run(-65536, letters("x", 65537))),
		list(run(0, "a"), run(-1, "b")),
		list(run(-2, "a"), run(0, "b")),
		list(run(math.MaxInt, "a")),
		list(run(math.MaxInt, "")),
		list(run(math.MaxInt-1, "ab")),
		list(run(math.MaxInt-1, "a"), run(0, "b")),
		list(run(math.MaxInt, "a"), run(2, "b")),
		list(run(math.MaxInt, "a"), run(math.MinInt, "b")),
		list(run(math.MinInt, "a")),
		list(run(math.MinInt, "a"), run(0, "b")),
		list(run(0, "a"), run(math.MinInt, "b")),
		list(run(0, "a"), run(math.MaxInt, "b")),
		list(run(0, "a"), run(65536, "b")),
		list(run(0, "a"), run(65535, "bc")),
		list(run(0, letters("x", 65536)), run(65537, "b")),
		list(run(0, letters("x", 65536)), run(65536, "")),
	}
}

// edges: the numbers that the document names, and what is beside them.
func edges() []int {
	return []int{math.MinInt, math.MinInt + 1, math.MinInt + 65536, -65537, -65536, -2, -1, 0, 1, 2, 3, 32768, 65533, 65534, 65535, 65536, 65537, 65538, 131072, math.MaxInt - 65537, math.MaxInt - 65536, math.MaxInt - 65535, math.MaxInt - 1, math.MaxInt}
}

// masks: all contents of that many bytes, of which each is 0 or the letter of its place.
func masks(n int) []string {
	var all []string
	for mask := range 1 << n {
		b := make([]byte, n)
		for k := range b {
			if mask>>k&1 == 1 {
				b[k] = 'a' + byte(k)
			}
		}
		all = append(all, string(b))
	}
	return all
}

// anyData: a text of up to that many bytes, in stretches of 0 and of others.
func anyData(r *rand.Rand, most int) string {
	n := r.Intn(most + 1)
	b := make([]byte, 0, n)
	for len(b) < n {
		letter := byte(0)
		if r.Intn(5) < 3 {
			letter = byte(1 + r.Intn(255))
		}
		for range min(1+r.Intn(1+most/4), n-len(b)) {
			b = append(b, letter)
		}
	}
	return string(b)
}

// anyMost: how long things are, most often not long.
func anyMost(r *rand.Rand) int {
	return []int{4, 12, 12, 60, 300, 3000}[r.Intn(6)]
}

// anyPlace: a place, often near a list's bounds, or a content's.
func anyPlace(r *rand.Rand, l []api.Run) int {
	switch k := r.Intn(10); {
	case k < 6 && len(l) > 0:
		run := l[r.Intn(len(l))]
		return run.At + r.Intn(2)*len(run.Data) + r.Intn(5) - 2
	case k < 7:
		return r.Intn(6)
	case k < 8:
		return size - r.Intn(6)
	case k < 9:
		return r.Intn(30)
	}
	return r.Intn(size + 1)
}

// anyList: a right list.
func anyList(r *rand.Rand) []api.Run {
	content := make([]byte, size)
	for range r.Intn(5) {
		copy(content[max(0, min(anyPlace(r, nil), size-1)):], anyData(r, anyMost(r)))
	}
	if r.Intn(20) == 0 {
		copy(content, letters("w", size-r.Intn(3)))
	}
	return plainRuns(content)
}

// anyNumber: any int.
func anyNumber(r *rand.Rand, l []api.Run) int {
	if r.Intn(8) == 0 {
		all := edges()
		return all[r.Intn(len(all))]
	}
	return anyPlace(r, l)
}

// broken: l with one thing changed, so that most often it isn't right.
func broken(r *rand.Rand, l []api.Run) []api.Run {
	l = append(slices.Clone(l), run(anyNumber(r, l), anyData(r, 3)))
	k := r.Intn(len(l))
	switch r.Intn(9) {
	case 0:
		l[k].At = anyNumber(r, l)
	case 1:
		l[k].At += r.Intn(5) - 2
	case 2:
		l[k].Data += anyData(r, 2)
	case 3:
		l[k].Data = l[k].Data[:r.Intn(len(l[k].Data)+1)]
	case 4:
		l = slices.Insert(l, k, l[r.Intn(len(l))])
	case 5:
		j := r.Intn(len(l))
		l[k], l[j] = l[j], l[k]
	case 6:
		half := r.Intn(len(l[k].Data) + 1)
		l = slices.Insert(l, k+1, run(l[k].At+half, l[k].Data[half:]))
		l[k].Data = l[k].Data[:half]
	case 7:
		l[k].Data = anyData(r, 4)
	}
	if r.Intn(2) == 0 {
		slices.SortStableFunc(l, func(a, b api.Run) int { return cmp.Compare(a.At, b.At) })
	}
	return l
}
