package path

import (
	"math/rand"
	"slices"
	"strings"
	"testing"

	"undercroft/api"
)

// P14.1: the document's examples.

func TestExamples(t *testing.T) {
	wantParts(t, "/a//b/./c", false, "a", "b", "c")
	wantParts(t, "/", true)
	wantParts(t, "/a/", true, "a")
	wantParts(t, "/..", true, "..")
	wantUnsplit(t, "a", api.ErrArg)
	wantLeft(t, []string{"a", "..", "..", "b"}, []string{"b"})
	wantPath(t, "/a/b", "a", "b")
}

// P14.1: Split.

func TestThesePaths(t *testing.T) {
	for _, c := range []struct {
		p     string
		dir   bool
		parts []string
	}{
		{"/a", false, []string{"a"}},
		{"/a/b", false, []string{"a", "b"}},
		{"/a/b/", true, []string{"a", "b"}},
		{"/a/b//", true, []string{"a", "b"}},
		{"//", true, nil},
		{"///", true, nil},
		{"//a", false, []string{"a"}},
		{"/.", true, nil},
		{"/./", true, nil},
		{"/./.", true, nil},
		{"/./a", false, []string{"a"}},
		{"/a/.", true, []string{"a"}},
		{"/a/./", true, []string{"a"}},
		{"/a/..", true, []string{"a", ".."}},
		{"/a/../", true, []string{"a", ".."}},
		{"/a/../b", false, []string{"a", "..", "b"}},
		{"/../..", true, []string{"..", ".."}},
		{"/../a", false, []string{"..", "a"}},
		{"/../.", true, []string{".."}},
		{"/./..", true, []string{".."}},
		{"/a.", false, []string{"a."}},
		{"/a..", false, []string{"a.."}},
		{"/.a", false, []string{".a"}},
		{"/..a", false, []string{"..a"}},
		{"/...", false, []string{"..."}},
		{"/.../", true, []string{"..."}},
		{"/a/b.", false, []string{"a", "b."}},
		{"/ ", false, []string{" "}},
		{"/\\", false, []string{"\\"}},
		{"/\xff/\x01", false, []string{"\xff", "\x01"}},
		{"/é/é", false, []string{"é", "é"}},
		{"/a/a/a", false, []string{"a", "a", "a"}},
		{"/c/b/a", false, []string{"c", "b", "a"}},
	} {
		wantParts(t, c.p, c.dir, c.parts...)
	}
}

// All paths of up to 8 of these bytes.
func TestAllShortPaths(t *testing.T) {
	for _, l := range listsOf(8, "/", ".", "a", "\x00") {
		wantSplit(t, strings.Join(l, ""))
	}
}

func TestEachByteAtEachPlace(t *testing.T) {
	for _, p := range []string{"/", "/abc", "/abc/", "/a/b/c/..", "/a//./b/" + long32, strings.Repeat("/ab", 85) + "/", strings.Repeat("/a", 128) + "/"} {
		for at := range len(p) {
			for c := range 256 {
				b := []byte(p)
				b[at] = byte(c)
				wantSplit(t, string(b))
				if c == 0 || at == 0 && c != '/' {
					wantUnsplit(t, string(b), api.ErrArg)
				}
			}
		}
	}
}

func TestLengthsOfPaths(t *testing.T) {
	wantUnsplit(t, "", api.ErrArg)
	wantParts(t, "/", true)
	wantParts(t, strings.Repeat("/", 255), true)
	wantParts(t, strings.Repeat("/", 256), true)
	wantUnsplit(t, strings.Repeat("/", 257), api.ErrLong)
	wantParts(t, strings.Repeat("/.", 128), true)
	wantUnsplit(t, "/"+strings.Repeat("/.", 128), api.ErrLong)
	wantParts(t, strings.Repeat("/..", 85), true, slices.Repeat([]string{".."}, 85)...)
	wantParts(t, strings.Repeat("/a", 128), false, slices.Repeat([]string{"a"}, 128)...)
	wantUnsplit(t, strings.Repeat("/a", 128)+"/", api.ErrLong)
	wide := strings.Repeat("/"+long32, 7)
	eight := append(slices.Repeat([]string{long32}, 7), "")
	for _, n := range []int{1, 23, 24} { // 233, 255 and 256 bytes
		eight[7] = strings.Repeat("z", n)
		wantParts(t, wide+"/"+eight[7], false, eight...)
	}
	wantUnsplit(t, wide+"/"+strings.Repeat("z", 25), api.ErrLong)
	for _, p := range []string{"/", "/.", "/a", "/..", "/" + long31, "/" + long32, "x", "\x00"} {
		for n := range 600 {
			wantSplit(t, strings.Repeat(p, n))
			whole := strings.Repeat(p, 600)
			wantSplit(t, whole[:n])
		}
		wantSplit(t, strings.Repeat(p, 100000))
	}
}

// Parts of all lengths, at the beginning, between, and at the end.
func TestLengthsOfParts(t *testing.T) {
	for n := 1; n < 70; n++ {
		for _, c := range []string{"a", "\xff", " ", "."} {
			part := strings.Repeat(c, n)
			for _, p := range []string{"/" + part, "//" + part, "/./" + part, "/" + part + "/", "/" + part + "/.", "/" + part + "/b", "/a/" + part, "/a/" + part + "/b", "/a/b/" + part + "//", "/../" + part + "/.."} {
				wantSplit(t, p)
				if n > 32 {
					wantUnsplit(t, p, api.ErrLong)
				}
			}
		}
	}
	wantParts(t, "/"+long32+"/"+long31, false, long32, long31)
	wantParts(t, "/"+long32+"/", true, long32)
	wantUnsplit(t, "/"+long33, api.ErrLong)
	wantUnsplit(t, "/"+long33+"/a", api.ErrLong)
}

// Two things wrong at once: ErrArg is asked ahead of ErrLong, wherever they stand.
func TestErrorsOfSplitInTheirOrder(t *testing.T) {
	for _, long := range []string{long33, long33 + "/a", "a/" + long33, strings.Repeat("/", 256), strings.Repeat("a/", 128), strings.Repeat("a", 257)} {
		wantUnsplit(t, "/"+long, api.ErrLong)
		for _, p := range []string{long + "\x00", "\x00" + long, "/" + long + "\x00", "/" + long + "/\x00", "/\x00" + long, "/\x00/" + long, "./" + long, "a/" + long, " /" + long} {
			wantUnsplit(t, p, api.ErrArg)
		}
	}
	wantUnsplit(t, long33, api.ErrArg)
	wantUnsplit(t, strings.Repeat("a", 257), api.ErrArg)
	wantUnsplit(t, strings.Repeat("\x00", 257), api.ErrArg)
	wantUnsplit(t, "/"+long33+strings.Repeat("/", 300), api.ErrLong)
	for at := range 300 {
		b := []byte(strings.Repeat("/", 300))
		b[at] = 0
		wantUnsplit(t, string(b), api.ErrArg)
	}
}

func TestAnyPaths(t *testing.T) {
	r := rand.New(rand.NewSource(141))
	for range 60000 {
		wantSplit(t, anyPath(r))
		wantSplit(t, "/"+anyBytes(r, 260, "abcdefgh/./"))
		wantSplit(t, anyBytes(r, 300, "/./a\xff"))
	}
}

// P14.1: Join.

func TestTheseJoins(t *testing.T) {
	wantPath(t, "/")
	wantPath(t, "/a", "a")
	wantPath(t, "/..", "..")
	wantPath(t, "/../..", "..", "..")
	wantPath(t, "/a/../b", "a", "..", "b")
	wantPath(t, "/a/b/c/d", "a", "b", "c", "d")
	wantPath(t, "/d/c/b/a", "d", "c", "b", "a")
	wantPath(t, "/.../a./.a", "...", "a.", ".a")
	for _, part := range goodParts() {
		wantPath(t, "/"+part, part)
		wantPath(t, "/a/"+part, "a", part)
		wantPath(t, "/"+part+"/a", part, "a")
	}
}

func TestPartsThatMayNotBe(t *testing.T) {
	for _, part := range badParts() {
		wantUnjoined(t, api.ErrArg, part)
		wantUnjoined(t, api.ErrArg, part, "a")
		wantUnjoined(t, api.ErrArg, "a", part)
		wantUnjoined(t, api.ErrArg, "..", part, "..")
		wantUnjoined(t, api.ErrArg, part, part)
		for _, length := range []int{2, 100, 127, 128, 129, 200} { // also where it would be too long
			for _, at := range []int{0, 1, length - 1} {
				parts := slices.Repeat([]string{"a"}, length)
				parts[at] = part
				wantUnjoined(t, api.ErrArg, parts...)
			}
		}
	}
}

func TestEachByteInAPart(t *testing.T) {
	for c := range 256 {
		for _, part := range []string{string([]byte{byte(c)}), string([]byte{'a', byte(c)}), string([]byte{byte(c), 'a'}), string([]byte{'.', byte(c)}), long31 + string([]byte{byte(c)})} {
			wantJoin(t, []string{part})
			wantJoin(t, []string{"a", part})
			wantJoin(t, []string{part, "a"})
			if c != 0 && c != '/' && c != '.' {
				wantPath(t, "/"+part, part)
			}
		}
	}
}

func TestAllShortJoins(t *testing.T) {
	for _, l := range listsOf(5, "a", "bc", ".", "..", "", "/", "\x00") {
		wantJoin(t, l)
	}
	for _, l := range listsOf(2, append(goodParts(), badParts()...)...) {
		wantJoin(t, l)
	}
}

func TestLengthsOfJoins(t *testing.T) {
	wantPath(t, strings.Repeat("/..", 85), slices.Repeat([]string{".."}, 85)...)
	wantUnjoined(t, api.ErrLong, slices.Repeat([]string{".."}, 86)...)
	wantPath(t, strings.Repeat("/a", 128), slices.Repeat([]string{"a"}, 128)...)
	wantUnjoined(t, api.ErrLong, slices.Repeat([]string{"a"}, 129)...)
	wantUnjoined(t, api.ErrLong, append(slices.Repeat([]string{"a"}, 127), "bc")...)
	wantPath(t, strings.Repeat("/"+long32, 7), slices.Repeat([]string{long32}, 7)...)
	wantUnjoined(t, api.ErrLong, slices.Repeat([]string{long32}, 8)...)
	for n := 1; n <= 32; n++ {
		last := strings.Repeat("z", n)
		seven := slices.Repeat([]string{long32}, 7)
		for _, l := range [][]string{append(seven, last), append([]string{last}, seven...)} {
			wantJoin(t, l)
			if p, err := Join(l); (err == api.OK) != (n <= 24) || err == api.OK && len(p) != 232+n {
				t.Errorf("Join(%q): %d bytes, error %d", l, len(p), err)
			}
		}
	}
	for n := range 300 {
		wantJoin(t, slices.Repeat([]string{"a"}, n))
		wantJoin(t, slices.Repeat([]string{".."}, n))
		wantJoin(t, append(slices.Repeat([]string{"a"}, n), "bc"))
		wantJoin(t, slices.Repeat([]string{long32}, n))
	}
	wantUnjoined(t, api.ErrLong, slices.Repeat([]string{long32}, 100000)...)
}

func TestAnyJoins(t *testing.T) {
	r := rand.New(rand.NewSource(142))
	for range 60000 {
		wantJoin(t, anyList(r))
	}
}

// P14.1: Plain.

func TestThesePlains(t *testing.T) {
	for _, c := range []struct{ parts, want []string }{
		{nil, nil},
		{[]string{"a"}, []string{"a"}},
		{[]string{"a", "b"}, []string{"a", "b"}},
		{[]string{".."}, nil},
		{[]string{"..", ".."}, nil},
		{[]string{"..", "a"}, []string{"a"}},
		{[]string{"..", "..", "a", "b"}, []string{"a", "b"}},
		{[]string{"a", ".."}, nil},
		{[]string{"a", "..", ".."}, nil},
		{[]string{"a", "b", ".."}, []string{"a"}},
		{[]string{"a", "..", "b"}, []string{"b"}},
		{[]string{"a", "b", "..", "c"}, []string{"a", "c"}},
		{[]string{"a", "b", "..", ".."}, nil},
		{[]string{"a", "b", "..", "..", "..", "c"}, []string{"c"}},
		{[]string{"a", "b", "c", "..", "..", "d"}, []string{"a", "d"}},
		{[]string{"a", "..", "b", ".."}, nil},
		{[]string{"..", "a", "..", "b"}, []string{"b"}},
		{[]string{"a", "a", "..", "a"}, []string{"a", "a"}},
		{[]string{"...", ".."}, nil},
		{[]string{"a", "..."}, []string{"a", "..."}},
		{[]string{"a", "."}, []string{"a", "."}},
		{[]string{"a", ".", ".."}, []string{"a"}},
		{[]string{"a", "", ".."}, []string{"a"}},
		{[]string{"", "/", "\x00", "a/..", "../", ".. "}, []string{"", "/", "\x00", "a/..", "../", ".. "}},
		{[]string{long33, long33 + "/", "..", "x"}, []string{long33, "x"}},
	} {
		wantLeft(t, c.parts, c.want)
	}
}

func TestAllShortPlains(t *testing.T) {
	for _, l := range listsOf(9, "a", "b", "..") {
		wantPlain(t, l)
	}
	for _, l := range listsOf(5, "a", ".", "", "..", "/..", "...") {
		wantPlain(t, l)
	}
	for _, l := range listsOf(2, append(goodParts(), badParts()...)...) {
		wantPlain(t, l)
	}
}

func TestManyParts(t *testing.T) {
	many := slices.Repeat([]string{"a"}, 100000)
	wantLeft(t, many, many)
	wantLeft(t, slices.Repeat([]string{".."}, 100000), nil)
	wantLeft(t, slices.Repeat([]string{"a", ".."}, 100000), nil)
	wantLeft(t, slices.Concat(many, slices.Repeat([]string{".."}, 99999), []string{"b"}), []string{"a", "b"})
	wantLeft(t, slices.Concat(many, slices.Repeat([]string{".."}, 100001), []string{"b"}), []string{"b"})
}

func TestAnyPlains(t *testing.T) {
	r := rand.New(rand.NewSource(143))
	for range 60000 {
		wantPlain(t, anyList(r))
		wantPlain(t, anyParts(r, 40, func(r *rand.Rand) string { return []string{"a", "b", "..", "c", ".."}[r.Intn(5)] }))
	}
}
