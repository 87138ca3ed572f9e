package path

import (
	"math/rand"
	"slices"
	"strings"
	"testing"

	"undercroft/api"
)

// The document's words once more, as plainly as can be, to hold the package against.

// plainPieces: what stands between strokes, and ahead of the first and behind the last one, byte by byte.
func plainPieces(p string) []string {
	pieces := []string{""}
	for k := range len(p) {
		if p[k] == 47 {
			pieces = append(pieces, "")
		} else {
			pieces[len(pieces)-1] += p[k : k+1]
		}
	}
	return pieces
}

// plainSplit: what Split is to answer.
func plainSplit(p string) ([]string, bool, api.Errno) {
	if len(p) == 0 || p[0] != 47 {
		return nil, false, api.ErrArg
	}
	for k := range len(p) {
		if p[k] == 0 {
			return nil, false, api.ErrArg
		}
	}
	if len(p) > 256 {
		return nil, false, api.ErrLong
	}
	pieces := plainPieces(p)
	var parts []string
	for _, piece := range pieces {
		if len(piece) > 32 {
			return nil, false, api.ErrLong
		}
		if piece != "" && piece != "." {
			parts = append(parts, piece)
		}
	}
	switch pieces[len(pieces)-1] {
	case "", ".", "..":
		return parts, true, api.OK
	}
	return parts, false, api.OK
}

// plainMay: whether a name may be, as chapter 11 says.
func plainMay(name string) bool {
	for k := range len(name) {
		if name[k] == 0 || name[k] == 47 {
			return false
		}
	}
	return name != "" && name != "." && name != ".." && len(name) < 33
}

// plainJoin: what Join is to answer.
func plainJoin(parts []string) (string, api.Errno) {
	p := ""
	for _, part := range parts {
		if part != ".." && !plainMay(part) {
			return "", api.ErrArg
		}
		p += "/" + part
	}
	if len(p) > 256 {
		return "", api.ErrLong
	}
	if p == "" {
		p = "/"
	}
	return p, api.OK
}

// plainPlain: what Plain is to answer: as long as there is one, the first ".." goes, with the part ahead of it.
func plainPlain(parts []string) []string {
	left := slices.Clone(parts)
	for {
		k := slices.Index(left, "..")
		if k < 0 {
			return left
		}
		left = slices.Concat(left[:max(k-1, 0)], left[k+1:])
	}
}

// wantSplit, wantJoin and wantPlain: the call answers as the document says.

func wantSplit(t *testing.T, p string) {
	t.Helper()
	want, dir, wanted := plainSplit(p)
	if parts, has, err := Split(p); err != wanted || has != dir || !slices.Equal(parts, want) {
		t.Errorf("Split(%q): %q, %v, error %d, want %q, %v, error %d", p, parts, has, err, want, dir, wanted)
	}
}

func wantJoin(t *testing.T, parts []string) {
	t.Helper()
	want, wanted := plainJoin(parts)
	if p, err := Join(parts); err != wanted || p != want {
		t.Errorf("Join(%q): %q, error %d, want %q, error %d", parts, p, err, want, wanted)
	}
}

func wantPlain(t *testing.T, parts []string) {
	t.Helper()
	if plain, want := Plain(parts), plainPlain(parts); !slices.Equal(plain, want) {
		t.Errorf("Plain(%q): %q, want %q", parts, plain, want)
	}
}

// wantParts: Split of p answers these parts, and that.
func wantParts(t *testing.T, p string, dir bool, want ...string) {
	t.Helper()
	if parts, has, err := Split(p); err != api.OK || has != dir || !slices.Equal(parts, want) {
		t.Errorf("Split(%q): %q, %v, error %d, want %q, %v", p, parts, has, err, want, dir)
	}
}

// wantUnsplit: Split of p answers that error alone.
func wantUnsplit(t *testing.T, p string, wanted api.Errno) {
	t.Helper()
	if parts, has, err := Split(p); err != wanted || has || len(parts) != 0 {
		t.Errorf("Split(%q): %q, %v, error %d, want no parts, false, error %d", p, parts, has, err, wanted)
	}
}

// wantPath: Join of these parts answers p.
func wantPath(t *testing.T, p string, parts ...string) {
	t.Helper()
	if got, err := Join(parts); err != api.OK || got != p {
		t.Errorf("Join(%q): %q, error %d, want %q", parts, got, err, p)
	}
}

// wantUnjoined: Join of these parts answers that error alone.
func wantUnjoined(t *testing.T, wanted api.Errno, parts ...string) {
	t.Helper()
	if p, err := Join(parts); err != wanted || p != "" {
		t.Errorf("Join(%q): %q, error %d, want no bytes, error %d", parts, p, err, wanted)
	}
}

// wantLeft: Plain of these parts leaves those.
func wantLeft(t *testing.T, parts, want []string) {
	t.Helper()
	if plain := Plain(parts); !slices.Equal(plain, want) {
		t.Errorf("Plain(%q): %q, want %q", parts, plain, want)
	}
}

var (
	long31 = strings.Repeat("n", 31)
	long32 = strings.Repeat("n", 32)
	long33 = strings.Repeat("n", 33)
)

// goodParts: parts that may be Joined, up to the edges.
func goodParts() []string {
	return []string{"a", "..", "...", ".a", "a.", "..a", "a..", " ", "\x01", "\xff", "\\", "é", "\xc3", long31, long32, strings.Repeat(".", 32), strings.Repeat("\xff", 32)}
}

// badParts: parts that may not.
func badParts() []string {
	return []string{"", ".", "/", "//", "/a", "a/", "a/b", "./", "../", "/..", "\x00", "a\x00", "\x00a", "..\x00", long33, strings.Repeat(".", 33), strings.Repeat("n", 300), long31 + "/", long31 + "\x00", long32 + "\x00"}
}

// listsOf: all lists of up to that many of these parts.
func listsOf(most int, parts ...string) [][]string {
	lists := [][]string{nil}
	last := lists
	for range most {
		var next [][]string
		for _, l := range last {
			for _, part := range parts {
				next = append(next, append(slices.Clone(l), part))
			}
		}
		lists = append(lists, next...)
		last = next
	}
	return lists
}

// anyBytes: a text of up to that many bytes, most of them of these.
func anyBytes(r *rand.Rand, most int, of string) string {
	b := make([]byte, r.Intn(most+1))
	for k := range b {
		b[k] = of[r.Intn(len(of))]
		if r.Intn(200) == 0 {
			b[k] = byte(r.Intn(256))
		}
	}
	return string(b)
}

// anyPath: a path, which most often may be, or nearly.
func anyPath(r *rand.Rand) string {
	var p strings.Builder
	for range r.Intn(16) {
		p.WriteString(strings.Repeat("/", 1+r.Intn(2)*r.Intn(3)))
		p.WriteString(anyPart(r))
	}
	if r.Intn(3) == 0 {
		p.WriteString("/")
	}
	return p.String()
}

// anyPart: a part that most often may be, or nearly.
func anyPart(r *rand.Rand) string {
	switch r.Intn(8) {
	case 0:
		return ".."
	case 1:
		return "."
	case 2:
		return strings.Repeat("p", 30+r.Intn(4))
	case 3:
		return anyBytes(r, 4, "./ab")
	}
	return anyBytes(r, 12, "abc.\xff")
}

// anyGood: a part that may be.
func anyGood(r *rand.Rand) string {
	good := goodParts()
	return good[r.Intn(len(good))]
}

// anyParts: up to that many parts, which any is made by.
func anyParts(r *rand.Rand, most int, any func(*rand.Rand) string) []string {
	parts := make([]string, r.Intn(most+1))
	for k := range parts {
		parts[k] = any(r)
	}
	return parts
}

// anyList: parts of all kinds.
func anyList(r *rand.Rand) []string {
	switch r.Intn(4) {
	case 0:
		return anyParts(r, 20, anyPart)
	case 1:
		bad := badParts()
		return append(anyParts(r, 12, anyGood), bad[r.Intn(len(bad))])
	case 2:
		return anyParts(r, 100, func(r *rand.Rand) string { return []string{"a", "bc", ".."}[r.Intn(3)] })
	}
	return anyParts(r, 12, anyGood)
}

// joinable: so many lists of parts that can be Joined.
func joinable(seed int64, many int) [][]string {
	r := rand.New(rand.NewSource(seed))
	lists := [][]string{nil, {".."}, {"a", "b", "c"}, {"a", "..", "..", "b"}, slices.Repeat([]string{"a"}, 128), slices.Repeat([]string{".."}, 85)}
	for len(lists) < many {
		l := anyParts(r, 14, anyGood)
		if _, err := plainJoin(l); err == api.OK {
			lists = append(lists, l)
		}
	}
	return lists
}
