package tree

import (
	"math"
	"slices"
	"strconv"
	"testing"

	"undercroft/api"
)

// P16.1: the document's examples.

func TestExamples(t *testing.T) {
	l := born(t)
	l.want(open("/a", api.ForWrite|api.Create), num(0))
	l.want(write(0, "hi"), num(2))
	l.want(link("/a", "/b"), ok)
	l.want(stat("/b"), is(api.File, 2, 2))
	l.want(mkdir("/d"), ok)
	l.want(rename("/d", "/d/e"), failed(api.ErrArg))
	l.want(linkto("a", "/s"), ok)
	l.want(open("/s", api.ForRead), num(1))
	l.want(read(1, 9), got("hi"))
	l.want(linkto("t", "/t"), ok)
	l.want(stat("/t"), failed(api.ErrLoop))
	l.want(rmdir("/"), failed(api.ErrArg))
	l.want(readdir("/a"), failed(api.ErrNotDir))
}

// The examples of the whole that need no device.
func TestExamplesOfTheWhole(t *testing.T) {
	l := born(t)
	l.want(open("/f", 7), num(0))
	l.want(seek(0, 600, 0), num(600))
	l.want(write(0, "x"), num(1))
	l.want(seek(0, 598, 0), num(598))
	l.want(read(0, 9), got("\x00\x00x"))
	l.want(stat("/"), is(api.Folder, 2, 1))
	l.want(stat("/f"), is(api.File, 1, 601))

	l = born(t)
	l.want(linkto("s", "/s"), ok)
	l.want(stat("/s"), failed(api.ErrLoop))
	l.want(lstat("/s"), is(api.Symlink, 1, 1))

	l = born(t)
	l.want(mkdir("/a"), ok)
	l.want(mkdir("/a/b"), ok)
	l.want(rename("/a", "/a/b/c"), failed(api.ErrArg))
	l.want(stat("/"), is(api.Folder, 3, 1))
	l.want(stat("/a"), is(api.Folder, 3, 1))
	l.want(stat("/a/b"), is(api.Folder, 2, 0))

	l = born(t)
	l.want(open("/f", 7), num(0))
	l.want(link("/f", "/g"), ok)
	l.want(unlink("/f"), ok)
	l.want(stat("/g"), is(api.File, 1, 0))
}

func TestNewIsTheRootAlone(t *testing.T) {
	l := born(t)
	l.want(stat("/"), is(api.Folder, 2, 0))
	l.want(readdir("/"), names())
	l.want(attrs("/"), names())
	l.wantErr(api.ErrFd, shut(0), read(0, 1), write(0, "a"), seek(0, 0, 0), fsync(0))
	l.want(syncAll, ok)
	if is := l.tree.Dump(); !sameDump(is, []api.Entry{{Path: "/", Kind: api.Folder, Links: 2}}) {
		t.Errorf("the Dump of a new tree: %+v", is)
	}
}

// P16.1: Open.

func TestOpenFlags(t *testing.T) {
	flags := edges()
	for k := -70; k < 140; k++ {
		flags = append(flags, k)
	}
	for shift := range 64 {
		flags = append(flags, 1<<shift, 1<<shift|7, math.MinInt>>shift, math.MinInt>>shift|7)
	}
	l := world(t)
	for _, f := range flags {
		for _, p := range []string{"/f", "/new", "/new/", "/d", "/d/", "/s", "/sd", "/n", "/nd", "/nn", "/l", "/f/", "/", "", "/no/x"} {
			if r := l.ask(open(p, f)); r.Err == api.OK {
				l = world(t)
			}
		}
	}
}

func TestOpenErrors(t *testing.T) {
	l := world(t)
	const excl = api.Excl | api.Create
	for _, f := range []int{-1, -63, math.MinInt, math.MinInt | 7, 64, 64 | 7, 128, math.MaxInt, 0, api.Create, excl, api.ForRead | api.Trunc, api.ForRead | api.Append, api.Create | api.ForRead | api.Trunc, api.ForRead | api.Excl, forBoth | api.Excl} {
		l.wantErr(api.ErrArg, open("/f", f), open("/none", f), open("", f), open("/d", f))
	}
	l.wantErr(api.ErrArg, open("", 1), open("f", 7), open("/\x00", 7))
	l.wantErr(api.ErrLong, open("/"+text("n", 33), 7), open(text("/", 257), 7))
	l.wantErr(api.ErrNotDir, open("/f/", 1), open("/f/x", 7), open("/f/..", 1), open("/sf", 1))
	l.wantErr(api.ErrLoop, open("/l", 7), open("/l/x", 7))
	l.wantErr(api.ErrNone, open("/none", 1), open("/none", 3), open("/none/", 1), open("/none", 2|api.Trunc), open("/n", 1), open("/nd", 1), open("/no/x", 7), open("/nn", 7))
	l.wantErr(api.ErrDir, open("/none/", 7), open("/none/.", 7), open("/nd", 7), open("/n/", 7), open("/none/", 3|excl))
	l.wantErr(api.ErrDir, open("/", 1), open("/d", 1), open("/d", 7), open("/d/", 1), open("/sd", 1), open("/d/..", 1), open("/d", 2|api.Trunc))
	l.wantErr(api.ErrExist, open("/f", 1|excl), open("/d", 1|excl), open("/", 1|excl), open("/s", 1|excl), open("/n", 1|excl), open("/l", 1|excl), open("/sd/", 1|excl), open("/f", 2|excl|api.Trunc))

	for fd := range 8 {
		l.want(open("/f", 1), num(fd))
	}
	l.wantErr(api.ErrArg, open("/f", 0), open("", 64), open("/new", 8))
	l.wantErr(api.ErrMany, open("/f", 1), open("/new", 7), open("", 1), open("/d", 1), open("/f", 1|excl), open("/l", 1), open("/f", 2|api.Trunc), open("/none", 1))
	l.want(stat("/f"), is(api.File, 3, 5))
}

func TestOpenMakesAFile(t *testing.T) {
	l := world(t)
	const excl = api.Excl | api.Create
	for _, p := range []string{"/new1", "/d/sub/new", "/sd/new2", "/d/../new3", "/new4"} {
		fd := l.ask(open(p, 1|excl)).N
		l.want(stat(p), is(api.File, 1, 0))
		l.want(shut(fd), ok)
	}
	l.want(open("/n", making), num(0))
	l.want(stat("/new"), is(api.File, 1, 0))
	l.want(lstat("/n"), is(api.Symlink, 1, 3))
	l.want(open("/new", api.ForRead|api.Create), num(1))
	l.want(stat("/new"), is(api.File, 1, 0))
}

func TestTrunc(t *testing.T) {
	l := world(t)
	l.want(open("/f", forBoth), num(0))
	l.want(seek(0, 4, 0), num(4))
	l.want(open("/s", api.ForWrite|api.Trunc), num(1))
	l.want(stat("/d/f"), is(api.File, 3, 0))
	l.want(read(0, 3), got(""))
	l.want(write(0, "x"), num(1))
	l.want(seek(0, 0, 0), num(0))
	l.want(read(0, 9), got(noughts(4)+"x"))
	l.want(open("/made", making|api.Trunc), num(2))
	l.want(stat("/made"), is(api.File, 1, 0))
	l.want(open("/f", forBoth), num(3))
	l.want(stat("/f"), is(api.File, 3, 5))
}

func TestSlots(t *testing.T) {
	l := world(t)
	for fd := range 8 {
		l.want(open("/f", making), num(fd))
	}
	l.wantErr(api.ErrMany, open("/f", 1))
	l.want(shut(5), ok)
	l.want(shut(2), ok)
	l.want(shut(7), ok)
	l.wantErr(api.ErrFd, shut(5), fsync(2), read(7, 1))
	l.want(open("/f", 1), num(2))
	l.want(open("/d/x", 1), num(5))
	l.want(open("/g", 1), num(7))
	l.wantErr(api.ErrMany, open("/f", 1))
	l.want(read(5, 9), got("of d"))
	for fd := range 8 {
		l.want(shut(fd), ok)
	}
	l.want(open("/f", 1), num(0))
	l.want(read(0, 2), got("he"))
	l.want(shut(0), ok)
	l.want(open("/f", 1), num(0))
	l.want(read(0, 2), got("he"))
}

func TestFds(t *testing.T) {
	l := world(t)
	l.want(open("/f", forBoth), num(0))
	l.want(open("/f", forBoth), num(1))
	l.want(shut(0), ok)
	for _, fd := range []int{-1, 8, 0, 2, 7, 9, math.MinInt, math.MaxInt, math.MinInt + 1, 1 << 32, 1<<32 + 1, -8} {
		l.wantErr(api.ErrFd, shut(fd), read(fd, 1), read(fd, -1), write(fd, "a"), write(fd, ""), seek(fd, 0, 0), seek(fd, -1, 7), fsync(fd))
	}
	l.want(fsync(1), ok)
	l.want(shut(1), ok)
	l.wantErr(api.ErrFd, shut(1))
}

// P16.1: Read and WriteTo.

func TestReadAndWriteTo(t *testing.T) {
	l := world(t)
	l.want(open("/f", forBoth), num(0))
	l.wantErr(api.ErrArg, read(0, -1), read(0, math.MinInt))
	l.want(read(0, 0), got(""))
	l.want(read(0, 2), got("he"))
	l.want(read(0, 3), got("llo"))
	l.want(read(0, 1), got(""))
	l.want(seek(0, 1, 0), num(1))
	l.want(read(0, math.MaxInt), got("ello"))
	l.want(seek(0, 9, 0), num(9))
	l.want(read(0, 5), got(""))
	l.want(read(0, math.MaxInt), got(""))
	l.want(write(0, ""), num(0))
	l.want(stat("/f"), is(api.File, 3, 5))
	l.want(write(0, "x"), num(1))
	l.want(stat("/f"), is(api.File, 3, 10))
	l.want(seek(0, 3, 0), num(3))
	l.want(write(0, "LOW"), num(3))
	l.want(seek(0, 0, 0), num(0))
	l.want(read(0, 10), got("helLOW\x00\x00\x00x"))
	l.want(seek(0, 0, 2), num(10))
	l.want(write(0, "\x00"), num(1))
	l.want(stat("/f"), is(api.File, 3, 11))
}

func TestWhatASlotIsOpenFor(t *testing.T) {
	l := world(t)
	l.want(open("/f", api.ForRead), num(0))
	l.want(open("/f", api.ForWrite), num(1))
	l.wantErr(api.ErrFd, write(0, "a"), write(0, ""), write(0, text("a", 513)), read(1, 1), read(1, 0), read(1, -1))
	l.want(read(0, 9), got("hello"))
	l.want(write(1, "j"), num(1))
	l.want(seek(0, 0, 0), num(0))
	l.want(read(0, 9), got("jello"))
	for fd := range 2 {
		l.want(seek(fd, 2, 0), num(2))
		l.want(fsync(fd), ok)
		l.want(shut(fd), ok)
	}
}

func TestHowManyAreWritten(t *testing.T) {
	l := world(t)
	l.want(open("/w", making), num(0))
	size := 0
	for _, n := range []int{0, 1, 2, 511, 512, 513, 514, 1024, 100000} {
		l.want(write(0, text("w", n)), num(min(n, 512)))
		size += min(n, 512)
		l.want(stat("/w"), is(api.File, 1, size))
	}
	for _, n := range []int{0, 1, 2, 511, 512, 513, 600} {
		for behind := range 3 {
			for _, left := range []int{n - 1, n, n + 1, 511, 512, 513} {
				if left < 0 {
					continue
				}
				l.want(truncate("/w", 0), ok)
				l.want(seek(0, 65536-left, 0), num(65536-left))
				if want := min(n, left, 512); want > 0 || n == 0 {
					l.want(write(0, text("e", n)), num(want))
				} else {
					l.want(write(0, text("e", n)), failed(api.ErrBig))
				}
				l.ask(write(0, text("f", behind)))
			}
		}
	}
}

func TestMaxFile(t *testing.T) {
	l := world(t)
	l.want(open("/f", forBoth), num(0))
	l.want(seek(0, 65536, 0), num(65536))
	l.want(read(0, 1), got(""))
	l.want(write(0, ""), num(0))
	l.wantErr(api.ErrBig, write(0, "a"), write(0, text("a", 513)))
	l.want(stat("/f"), is(api.File, 3, 5))
	l.want(seek(0, 65535, 0), num(65535))
	l.want(write(0, "ab"), num(1))
	l.want(stat("/f"), is(api.File, 3, 65536))
	l.wantErr(api.ErrBig, write(0, "b"))
	l.want(seek(0, 65534, 0), num(65534))
	l.want(read(0, 9), got("\x00a"))
	l.want(seek(0, 0, 0), num(0))
	l.want(read(0, math.MaxInt), got("hello"+noughts(65530)+"a"))
	l.want(seek(0, 65024, 0), num(65024))
	l.want(write(0, text("z", 513)), num(512))
	l.wantErr(api.ErrBig, write(0, "z"))
}

func TestAppend(t *testing.T) {
	l := world(t)
	l.want(open("/f", forBoth|api.Append), num(0))
	l.want(open("/g", forBoth), num(1))
	l.want(read(0, 1), got("h"))
	l.want(write(0, ""), num(0))
	l.want(seek(0, 0, 1), num(1))
	l.want(write(0, " you"), num(4))
	l.want(seek(0, 0, 1), num(9))
	l.want(seek(1, 20, 0), num(20))
	l.want(write(1, "x"), num(1))
	l.want(write(0, "y"), num(1))
	l.want(seek(0, 0, 1), num(22))
	l.want(seek(0, 7, 0), num(7))
	l.want(write(0, text("q", 513)), num(512))
	l.want(seek(0, 0, 1), num(534))
	l.want(truncate("/f", 2), ok)
	l.want(write(0, "ll"), num(2))
	l.want(seek(0, 0, 0), num(0))
	l.want(read(0, 9), got("hell"))
	l.want(seek(0, 60000, 0), num(60000))
	l.want(write(0, ""), num(0))
	l.want(stat("/f"), is(api.File, 3, 4))
	l.want(write(0, "o"), num(1))
	l.want(stat("/f"), is(api.File, 3, 5))
}

// An Append that is refused leaves the offset where it was.
func TestAppendAtMaxFile(t *testing.T) {
	l := world(t)
	l.want(open("/f", forBoth|api.Append), num(0))
	l.want(truncate("/f", 65535), ok)
	l.want(read(0, 2), got("he"))
	l.want(write(0, "ab"), num(1))
	l.want(seek(0, 2, 0), num(2))
	l.wantErr(api.ErrBig, write(0, "a"), write(0, text("a", 600)))
	l.want(seek(0, 0, 1), num(2))
	l.want(write(0, ""), num(0))
	l.want(read(0, 3), got("llo"))
}

// P16.1: Seek.

func TestSeek(t *testing.T) {
	for _, size := range []int{0, 5, 65535, 65536} {
		l := world(t)
		l.oks(truncate("/f", size), open("/f", 1))
		for _, offset := range []int{0, 1, 5, 65535, 65536} {
			for from, base := range []int{0, offset, size} {
				for _, to := range []int{0, 1, size, 65535, 65536} {
					l.want(seek(0, offset, 0), num(offset))
					l.want(seek(0, to-base, from), num(to))
					l.want(seek(0, 0, 1), num(to))
				}
				l.want(seek(0, offset, 0), num(offset))
				l.wantErr(api.ErrArg, seek(0, -1-base, from), seek(0, 65537-base, from), seek(0, math.MinInt, from), seek(0, math.MaxInt, from), seek(0, math.MinInt+base, from), seek(0, math.MaxInt-base, from))
			}
		}
		l.want(seek(0, 3, 0), num(3))
		for _, from := range []int{-1, 3, 4, math.MinInt, math.MaxInt, 1 << 32, 1<<32 + 1} {
			l.wantErr(api.ErrArg, seek(0, 0, from), seek(0, -1, from))
		}
		l.want(seek(0, 0, 1), num(3))
	}
}

// P16.1: Stat and Lstat.

func TestStat(t *testing.T) {
	l := world(t)
	l.want(stat("/"), is(api.Folder, 4, 13))
	l.want(stat("/d"), is(api.Folder, 3, 6))
	l.want(stat("/e"), is(api.Folder, 2, 0))
	l.want(stat("/f"), is(api.File, 3, 5))
	l.want(stat("/s"), is(api.File, 3, 5))
	l.want(stat("/sd"), is(api.Folder, 3, 6))
	l.want(lstat("/s"), is(api.Symlink, 1, 1))
	l.want(lstat("/sd"), is(api.Symlink, 1, 1))
	l.want(lstat("/sd/"), is(api.Folder, 3, 6))
	l.want(lstat("/sx"), is(api.Symlink, 1, 4))
	l.want(lstat("/n"), is(api.Symlink, 1, 3))
	l.want(lstat("/l"), is(api.Symlink, 1, 1))
	l.want(lstat("/f"), is(api.File, 3, 5))
	l.want(lstat("/"), is(api.Folder, 4, 13))
	for _, c := range []func(string) api.Call{stat, lstat} {
		l.wantErr(api.ErrArg, c(""), c("f"), c("/\x00"), c("\x00"+text("/", 300)))
		l.wantErr(api.ErrLong, c(text("/", 257)), c("/f/"+text("n", 33)))
		l.wantErr(api.ErrNotDir, c("/f/"), c("/f/x"), c("/f/.."), c("/f/x/y"), c("/s/"), c("/s/x"))
		l.wantErr(api.ErrNone, c("/none"), c("/none/"), c("/none/x"), c("/none/.."), c("/n/"), c("/n/x"), c("/d/none"))
		l.wantErr(api.ErrLoop, c("/l/"), c("/l/x"), c("/l/.."))
	}
	l.wantErr(api.ErrNone, stat("/n"), stat("/nd"), stat("/nn"))
	l.wantErr(api.ErrLoop, stat("/l"))
	l.wantErr(api.ErrNotDir, stat("/sf"), lstat("/sf/"))
}

// P16.1: Mkdir and Rmdir.

func TestMkdir(t *testing.T) {
	l := full(t)
	l.want(mkdir("/a"), ok)
	l.want(mkdir("/a/b/"), ok)
	l.want(mkdir("/sd/a/."), ok)
	l.want(mkdir("/d/up/c"), ok)
	l.want(mkdir("/a/../e/c//"), ok)
	l.want(mkdir("/n/"), ok)
	l.want(stat("/new"), is(api.Folder, 2, 0))
	l.want(stat("/a"), is(api.Folder, 3, 1))
	l.wantErr(api.ErrArg, mkdir(""), mkdir("a"), mkdir("/m/\x00"))
	l.wantErr(api.ErrLong, mkdir("/"+text("n", 33)), mkdir(text("/", 250)+"/abcdefg"))
	l.wantErr(api.ErrNone, mkdir("/none/x"), mkdir("/none/.."))
	l.wantErr(api.ErrNotDir, mkdir("/f/x"), mkdir("/f/"), mkdir("/sf/"))
	l.wantErr(api.ErrLoop, mkdir("/l/"), mkdir("/l/x"))
	l.wantErr(api.ErrExist, mkdir("/"), mkdir("/f"), mkdir("/d"), mkdir("/d/"), mkdir("/s"), mkdir("/nn"), mkdir("/l"), mkdir("/d/.."), mkdir("/.."), mkdir("/sf"))
	l.wantErr(api.ErrMany, mkdir("/m/x"), mkdir("/m/x/"), mkdir("/m/../m/y"))
	l.wantErr(api.ErrExist, mkdir("/m/f"), mkdir("/m/1"), mkdir("/m/1/.."))
	l.want(rmdir("/m/5"), ok)
	l.want(mkdir("/m/x"), ok)
	l.wantErr(api.ErrMany, mkdir("/m/5"))
	l.want(mkdir("/m/1/x"), ok)
}

func TestTheRootHas100Links(t *testing.T) {
	l := born(t)
	for k := range 98 {
		l.want(mkdir("/"+strconv.Itoa(k)), ok)
	}
	l.want(stat("/"), is(api.Folder, 100, 98))
	l.wantErr(api.ErrMany, mkdir("/x"), mkdir("/1/../x"))
	l.want(open("/x", making), num(0))
	l.want(mkdir("/1/x"), ok)
	l.wantErr(api.ErrMany, rename("/1/x", "/y"))
	l.wantErr(api.ErrNotDir, rename("/1/x", "/x"))
	l.want(rename("/1/x", "/2"), ok)
	l.want(stat("/"), is(api.Folder, 100, 99))
	l.want(rename("/2", "/y"), ok)
	l.want(stat("/"), is(api.Folder, 100, 99))
}

func TestRmdir(t *testing.T) {
	l := world(t)
	l.oks(mkdir("/a"), mkdir("/a/b"), mkdir("/a/c"), linkto("a/b", "/sb"))
	l.wantErr(api.ErrArg, rmdir(""), rmdir("a"), rmdir("/a\x00"))
	l.wantErr(api.ErrLong, rmdir("/"+text("n", 33)))
	l.wantErr(api.ErrNone, rmdir("/none"), rmdir("/none/"), rmdir("/none/x"), rmdir("/n/"))
	l.wantErr(api.ErrNotDir, rmdir("/f"), rmdir("/f/"), rmdir("/f/.."), rmdir("/s"), rmdir("/s/"), rmdir("/sd"), rmdir("/sb"), rmdir("/l"), rmdir("/n"))
	l.wantErr(api.ErrLoop, rmdir("/l/"))
	l.wantErr(api.ErrArg, rmdir("/"), rmdir("//"), rmdir("/."), rmdir("/.."), rmdir("/a/.."), rmdir("/a/b/.."), rmdir("/e/.."), rmdir("/d/up/"), rmdir("/d/top/"))
	l.wantErr(api.ErrFilled, rmdir("/a"), rmdir("/a/"), rmdir("/a/."), rmdir("/d"), rmdir("/sd/"))
	l.want(stat("/"), is(api.Folder, 5, 15))
	l.want(rmdir("/a/b/../c"), ok)
	l.want(stat("/a"), is(api.Folder, 3, 1))
	l.want(rmdir("/sb/"), ok)
	l.want(stat("/a"), is(api.Folder, 2, 0))
	l.want(rmdir("/a/."), ok)
	l.want(stat("/"), is(api.Folder, 4, 14))
	l.wantErr(api.ErrNone, rmdir("/a"), rmdir("/sb/"))
	born(t).wantErr(api.ErrArg, rmdir("/"))
}

// P16.1: Unlink and Link.

func TestUnlink(t *testing.T) {
	l := world(t)
	l.wantErr(api.ErrArg, unlink(""), unlink("f"), unlink("/f\x00"))
	l.wantErr(api.ErrLong, unlink("/"+text("n", 33)))
	l.wantErr(api.ErrNone, unlink("/none"), unlink("/none/x"), unlink("/n/"))
	l.wantErr(api.ErrNotDir, unlink("/f/"), unlink("/f/x"), unlink("/s/"))
	l.wantErr(api.ErrLoop, unlink("/l/"))
	l.wantErr(api.ErrDir, unlink("/"), unlink("/d"), unlink("/e"), unlink("/d/.."), unlink("/sd/"), unlink("/e/"))
	l.want(unlink("/f"), ok)
	l.want(stat("/g"), is(api.File, 2, 5))
	l.wantErr(api.ErrNone, stat("/f"), stat("/s"), unlink("/f"), unlink("/s/"))
	l.want(unlink("/sd/f"), ok)
	l.want(unlink("/g"), ok)
	l.want(unlink("/sd"), ok)
	l.want(unlink("/s"), ok)
	l.want(unlink("/l"), ok)
	l.want(stat("/d"), is(api.Folder, 3, 5))
	l.want(stat("/"), is(api.Folder, 4, 8))
}

func TestLink(t *testing.T) {
	l := full(t)
	l.want(link("/f", "/e/f"), ok)
	l.want(stat("/e/f"), is(api.File, 4, 5))
	l.want(link("/s", "/e/s"), ok)
	l.want(lstat("/s"), is(api.Symlink, 2, 1))
	l.want(lstat("/e/s"), is(api.Symlink, 2, 1))
	l.want(readlink("/e/s"), data("f"))
	l.want(stat("/e/s"), is(api.File, 4, 5))
	l.wantErr(api.ErrArg, link("", "/x"), link("f", "/x"), link("/f\x00", ""))
	l.wantErr(api.ErrLong, link("/"+text("n", 33), ""))
	l.wantErr(api.ErrNone, link("/none", "/x"), link("/none", ""), link("/none/x", "/f"))
	l.wantErr(api.ErrNotDir, link("/f/", "/x"), link("/f/x", ""))
	l.wantErr(api.ErrLoop, link("/l/", ""))
	l.wantErr(api.ErrDir, link("/", "/x"), link("/d", "/x"), link("/d", ""), link("/m", "/f"), link("/sd/", "/x"), link("/d/..", "/x/"))
	l.wantErr(api.ErrMany, link("/h", "/x"), link("/h", ""), link("/hl/1", "/f"), link("/h", "/none/x"), link("/h", "/x/"))
	l.wantErr(api.ErrArg, link("/f", ""), link("/f", "x"), link("/f", "/\x00"))
	l.wantErr(api.ErrLong, link("/f", "/"+text("n", 33)), link("/f", text("/", 257)))
	l.wantErr(api.ErrNone, link("/f", "/none/x"), link("/f", "/n/x"))
	l.wantErr(api.ErrNotDir, link("/f", "/f/"), link("/f", "/f/x"), link("/f", "/s/"))
	l.wantErr(api.ErrLoop, link("/f", "/l/"), link("/f", "/l/x"))
	l.wantErr(api.ErrExist, link("/f", "/f"), link("/f", "/g"), link("/f", "/"), link("/f", "/d/"), link("/f", "/e/.."), link("/f", "/s"), link("/f", "/n"), link("/f", "/l"))
	l.wantErr(api.ErrNone, link("/f", "/x/"), link("/f", "/x/."), link("/f", "/n/"), link("/f", "/nd/"))
	l.want(unlink("/hl/7"), ok)
	l.want(link("/h", "/hl/x"), ok)
	l.wantErr(api.ErrMany, link("/h", "/hl/7"))
	l.want(link("/m/f", "/m/g"), ok)
	l.want(link("/f", "/x"), ok)
}

func TestASymlinkHas100Links(t *testing.T) {
	l := born(t)
	l.oks(linkto("a", "/s"))
	for k := range 99 {
		l.want(link("/s", "/"+strconv.Itoa(k)), ok)
	}
	l.want(lstat("/s"), is(api.Symlink, 100, 1))
	l.wantErr(api.ErrMany, link("/s", "/x"), link("/98", "/98"))
	l.want(unlink("/s"), ok)
	l.want(link("/0", "/x"), ok)
	l.wantErr(api.ErrMany, link("/x", "/y"))
}

// P16.1: Linkto and Readlink.

func TestLinkto(t *testing.T) {
	l := world(t)
	l.want(linkto("anything at all", "/e/a"), ok)
	l.want(lstat("/e/a"), is(api.Symlink, 1, 15))
	l.want(linkto(text("/", 255), "/e/b"), ok)
	l.want(readlink("/e/b"), data(text("/", 255)))
	l.want(linkto(text("n", 32), "/e/c"), ok)
	l.want(linkto("/a", "/sd/c"), ok)
	l.want(lstat("/d/c"), is(api.Symlink, 1, 2))
	l.wantErr(api.ErrArg, linkto("", "/x"), linkto("", ""), linkto("", "/f"), linkto("\x00", "/x"), linkto("a\x00", ""), linkto(text("/", 300)+"\x00", "/x"))
	l.wantErr(api.ErrLong, linkto(text("/", 256), "/x"), linkto(text("n", 33), "/x"), linkto("a/"+text("n", 33), ""), linkto(text("/", 256), "/f"), linkto(text("a/", 128), "/none/x"))
	l.wantErr(api.ErrArg, linkto("a", ""), linkto("a", "x"), linkto("a", "/\x00"))
	l.wantErr(api.ErrLong, linkto("a", "/"+text("n", 33)))
	l.wantErr(api.ErrNone, linkto("a", "/none/x"), linkto("a", "/none/.."))
	l.wantErr(api.ErrNotDir, linkto("a", "/f/x"), linkto("a", "/f/"))
	l.wantErr(api.ErrLoop, linkto("a", "/l/"))
	l.wantErr(api.ErrExist, linkto("a", "/"), linkto("a", "/f"), linkto("a", "/d/"), linkto("a", "/s"), linkto("a", "/n"), linkto("a", "/l"), linkto("a", "/e/.."))
	l.wantErr(api.ErrNone, linkto("a", "/x/"), linkto("a", "/x/."), linkto("a", "/n/"), linkto("a", "/nd/"))
}

func TestReadlink(t *testing.T) {
	l := world(t)
	for p, target := range map[string]string{"/s": "f", "/sd": "d", "/sx": "/d/x", "/se": "e/", "/n": "new", "/nd": "new/", "/l": "l", "/sd/up": "..", "/d/dot/dot": ".", "/d/top/l": "l"} {
		l.want(readlink(p), data(target))
	}
	l.wantErr(api.ErrArg, readlink(""), readlink("s"), readlink("/"), readlink("/f"), readlink("/d"), readlink("/d/.."), readlink("/sd/"), readlink("/se/."))
	l.wantErr(api.ErrLong, readlink("/"+text("n", 33)))
	l.wantErr(api.ErrNone, readlink("/none"), readlink("/n/"), readlink("/none/x"))
	l.wantErr(api.ErrNotDir, readlink("/f/"), readlink("/s/"), readlink("/f/x"))
	l.wantErr(api.ErrLoop, readlink("/l/"))
}

// P16.1: Readdir and Sync.

func TestReaddir(t *testing.T) {
	l := world(t)
	l.want(readdir("/"), names("d", "e", "f", "g", "l", "n", "nd", "nn", "s", "sd", "se", "sf", "sx"))
	l.want(readdir("/sd"), names("dot", "f", "sub", "top", "up", "x"))
	l.want(readdir("/d/"), names("dot", "f", "sub", "top", "up", "x"))
	l.want(readdir("/e"), names())
	l.oks(mkdir("/e/\xff"), mkdir("/e/Z"), mkdir("/e/a"), mkdir("/e/é"), mkdir("/e/aa"), mkdir("/e/a b"), mkdir("/e/..."), mkdir("/e/"+text("n", 32)))
	l.want(readdir("/se"), names("...", "Z", "a", "a b", "aa", text("n", 32), "é", "\xff"))
	l.wantErr(api.ErrNotDir, readdir("/f"), readdir("/s"), readdir("/f/"), readdir("/f/x"))
	l.wantErr(api.ErrNone, readdir("/none"), readdir("/n"), readdir("/none/x"))
	l.wantErr(api.ErrLoop, readdir("/l"))
	l.wantErr(api.ErrArg, readdir(""), readdir("e"))
	l.wantErr(api.ErrLong, readdir(text("/", 257)))
}

func TestSyncAndAnyOtherOp(t *testing.T) {
	l := world(t)
	l.want(open("/f", 1), num(0))
	l.want(api.Call{Op: api.Sync, Path: "", Fd: -1, N: -1, Flags: -1}, ok)
	for _, op := range append(edges(), 25, 26, -24, 1<<32+6) {
		if op < 1 || op > 24 {
			l.wantErr(api.ErrArg, api.Call{Op: op, Path: "/f", Other: "/x"}, api.Call{Op: op, Fd: 9}, api.Call{Op: op})
		}
	}
}

// P16.1: fields that a call doesn't name are nothing to it.
func TestOtherFieldsAreNoMatter(t *testing.T) {
	for _, c := range []api.Call{open("/f", 3), open("/new", 7), shut(0), read(0, 3), write(0, "xyz"), seek(0, 2, 1), stat("/s"), lstat("/s"), mkdir("/x"), rmdir("/e"), unlink("/f"), link("/f", "/x"), linkto("x", "/x"), readlink("/s"), rename("/f", "/x"), truncate("/f", 3), punch("/f", 1, 2), reserve("/f", 1, 2), readdir("/d"), setattr("/f", "a", "b"), getattr("/f", "k"), delattr("/f", "k"), attrs("/f"), fsync(0), syncAll} {
		a, b := world(t), world(t)
		a.oks(open("/d/x", forBoth))
		b.oks(open("/d/x", forBoth))
		other := c
		switch c.Op {
		case api.Close, api.Read, api.WriteTo, api.Seek, api.Fsync:
		default:
			other.Fd = -1
		}
		if c.Path == "" {
			other.Path = "nowhere"
		}
		if c.Other == "" {
			other.Other = "nowhere"
		}
		if c.Data == "" {
			other.Data = "\x00"
		}
		if c.Op != api.Open {
			other.Flags = -1
		}
		if c.N == 0 {
			other.N = -1
		}
		if c.M == 0 {
			other.M = -1
		}
		r := a.ask(c)
		if s := b.ask(other); !sameReply(r, s) || !sameDump(a.tree.Dump(), b.tree.Dump()) {
			t.Errorf("%+v: %+v, but %+v: %+v", c, r, other, s)
		}
	}
}

// P16.1: Truncate, Punch and Reserve.

func TestTruncate(t *testing.T) {
	l := world(t)
	for _, n := range []int{5, 6, 4, 0, 3, 65535, 65536, 1} {
		l.want(truncate("/s", n), ok)
		l.want(stat("/f"), is(api.File, 3, n))
	}
	l.oks(open("/f", 1), truncate("/f", 4))
	l.want(read(0, 9), got("\x00\x00\x00\x00"))
	l.file("/w", "abcdefgh")
	l.oks(truncate("/w", 3), truncate("/w", 6), open("/w", 1))
	l.want(read(1, 9), got("abc\x00\x00\x00"))
	l.wantErr(api.ErrArg, truncate("/f", -1), truncate("/f", math.MinInt), truncate("", -1), truncate("/d", -1), truncate("/none", -1), truncate("", 0))
	l.wantErr(api.ErrBig, truncate("/f", 65537), truncate("/f", math.MaxInt), truncate("", 65537), truncate("/d", 65537), truncate("/none", 65537))
	l.wantErr(api.ErrLong, truncate(text("/", 257), 1))
	l.wantErr(api.ErrNone, truncate("/none", 0), truncate("/n", 1), truncate("/none/x", 1))
	l.wantErr(api.ErrNotDir, truncate("/f/", 0), truncate("/f/x", 0))
	l.wantErr(api.ErrLoop, truncate("/l", 0))
	l.wantErr(api.ErrDir, truncate("/", 0), truncate("/d", 0), truncate("/sd", 65536), truncate("/d/..", 0))
}

func TestPunch(t *testing.T) {
	l := world(t)
	content := "abcdefgh"
	for _, n := range edges() {
		for _, m := range edges() {
			if n < 0 || m < 0 {
				l.wantErr(api.ErrArg, punch("/f", n, m), punch("", n, m), punch("/d", n, m), punch("/none", n, m))
				continue
			}
			l.file("/w", content)
			l.want(punch("/w", n, m), ok)
			l.want(stat("/w"), is(api.File, 1, 8))
			l.oks(open("/w", 1))
			want := []byte(content)
			for k := min(n, 8); k < 8 && k-n < m; k++ {
				want[k] = 0
			}
			l.want(read(0, 99), got(string(want)))
			l.oks(shut(0))
		}
	}
	l.file("/big", "b")
	l.oks(truncate("/big", 65536), open("/big", forBoth), seek(0, 65535, 0), write(0, "z"))
	l.want(punch("/big", 1, 65534), ok)
	l.want(punch("/big", 65536, 1), ok)
	l.want(punch("/big", 65535, 1), ok)
	l.want(punch("/big", 0, math.MaxInt), ok)
	l.want(stat("/big"), is(api.File, 1, 65536))
	l.want(punch("/s", 1, 2), ok)
	l.wantErr(api.ErrArg, punch("", 0, 0), punch("f", 0, 0))
	l.wantErr(api.ErrLong, punch(text("/", 257), 0, 0))
	l.wantErr(api.ErrNone, punch("/none", 0, 0), punch("/n", 0, 0), punch("/none/x", 0, 1))
	l.wantErr(api.ErrNotDir, punch("/f/", 0, 0), punch("/f/x", 0, 0))
	l.wantErr(api.ErrLoop, punch("/l", 0, 0))
	l.wantErr(api.ErrDir, punch("/", 0, 0), punch("/d", 0, 1), punch("/sd", 1, 0), punch("/d/..", 0, 0))
}

func TestReserve(t *testing.T) {
	l := world(t)
	was := l.tree.Dump()
	for _, n := range edges() {
		for _, m := range edges() {
			want := api.OK
			switch {
			case n < 0 || m < 0:
				want = api.ErrArg
			case n > 65536 || m > 65536 || n+m > 65536:
				want = api.ErrBig
			}
			l.wantErr(want, reserve("/f", n, m), reserve("/s", n, m))
			if want != api.OK {
				l.wantErr(want, reserve("", n, m), reserve("/d", n, m), reserve("/none", n, m))
			}
		}
	}
	l.wantErr(api.ErrArg, reserve("", 0, 0), reserve("f", 0, 0))
	l.wantErr(api.ErrLong, reserve(text("/", 257), 0, 0))
	l.wantErr(api.ErrNone, reserve("/none", 0, 0), reserve("/n", 0, 0), reserve("/none/x", 0, 1))
	l.wantErr(api.ErrNotDir, reserve("/f/", 0, 0), reserve("/f/x", 0, 0))
	l.wantErr(api.ErrLoop, reserve("/l", 0, 0))
	l.wantErr(api.ErrDir, reserve("/", 0, 0), reserve("/d", 0, 1), reserve("/sd", 65536, 0), reserve("/d/..", 0, 0))
	if !sameDump(l.tree.Dump(), was) {
		t.Error("a Reserve changes the tree")
	}
}

// P16.1: attributes.

func TestAttributes(t *testing.T) {
	l := world(t)
	for _, p := range []string{"/", "/d", "/f", "/s", "/sx", "/d/..", "/e/"} {
		l.oks(setattr(p, "b", "1"), setattr(p, "a", ""), setattr(p, "c", text("w", 64)), setattr(p, text("n", 16), "\x00"))
		l.want(getattr(p, "b"), data("1"))
		l.want(getattr(p, "a"), data(""))
		l.want(getattr(p, "c"), data(text("w", 64)))
		l.want(setattr(p, "b", "22"), ok)
		l.want(getattr(p, "b"), data("22"))
		l.want(delattr(p, "c"), ok)
		l.wantErr(api.ErrAttr, getattr(p, "c"), delattr(p, "c"), getattr(p, ""), delattr(p, ""), getattr(p, text("n", 17)))
		l.wantErr(api.ErrArg, setattr(p, "", "v"), setattr(p, text("n", 17), "v"), setattr(p, "v", text("w", 65)), setattr(p, "", text("w", 65)))
	}
	l.want(attrs("/"), names("a", "b", text("n", 16)))
	l.want(attrs("/f"), names("a", "b", "k", text("n", 16)))
	l.want(attrs("/g"), names("a", "b", "k", text("n", 16)))
	l.want(attrs("/s"), names("a", "b", "k", text("n", 16)))
	l.want(getattr("/d/f", "k"), data("v"))
	l.want(attrs("/sd"), names("a", "b", "kd", text("n", 16)))
	l.want(getattr("/d", "kd"), data("vd"))
	l.want(attrs("/d/sub"), names())
}

func TestAttributeErrors(t *testing.T) {
	l := world(t)
	for _, op := range []int{api.Setattr, api.Getattr, api.Delattr, api.Attrs} {
		for _, other := range []string{"k", "none", "", text("n", 17)} {
			c := func(p string) api.Call { return api.Call{Op: op, Path: p, Other: other, Data: text("w", 65)} }
			l.wantErr(api.ErrArg, c(""), c("f"), c("/f\x00"))
			l.wantErr(api.ErrLong, c(text("/", 257)))
			l.wantErr(api.ErrNone, c("/none"), c("/n"), c("/nd"), c("/none/x"))
			l.wantErr(api.ErrNotDir, c("/f/"), c("/f/x"), c("/sf"))
			l.wantErr(api.ErrLoop, c("/l"))
		}
	}
}

func TestNoRoomForAttributes(t *testing.T) {
	l := world(t)
	for k, name := range []string{"a", "b", "c"} {
		l.want(setattr("/e", name+text("n", 15), text("w", 64)), ok)
		l.want(attrs("/e"), names([]string{"a" + text("n", 15), "b" + text("n", 15), "c" + text("n", 15)}[:k+1]...))
	}
	l.wantErr(api.ErrAttr, setattr("/e", "z", "12"), setattr("/e", "zz", "1"), setattr("/e", text("n", 16), text("w", 64)))
	l.wantErr(api.ErrArg, setattr("/e", "", "12"), setattr("/e", "z", text("w", 65)))
	l.want(setattr("/e", "z", "1"), ok)
	l.want(setattr("/e", "z", "2"), ok)
	l.wantErr(api.ErrAttr, setattr("/e", "z", "22"), setattr("/e", "y", ""))
	l.want(delattr("/e", "z"), ok)
	l.want(setattr("/e", "zz", ""), ok)
}

// Attributes are a thing's, not an entry's, and go with it.
func TestAttributesGoWithTheThing(t *testing.T) {
	l := world(t)
	l.oks(rename("/f", "/e/f"), rename("/d", "/e/d"), unlink("/g"))
	l.want(getattr("/e/f", "k"), data("v"))
	l.want(getattr("/e/d/f", "k"), data("v"))
	l.want(getattr("/e/d", "kd"), data("vd"))
	l.oks(unlink("/e/f"), unlink("/e/d/f"))
	l.file("/f", "")
	l.want(attrs("/f"), names())
}

// P16.1: two things at once, each call at the root as Path and as Other.

func TestTheRoot(t *testing.T) {
	l := world(t)
	for _, root := range []string{"/", "//", "/.", "/..", "/../..", "/d/..", "/d/up", "/d/up/", "/d/top", "/d/top/"} {
		for op := range 26 {
			for _, other := range []string{"/", "/d", "/f", "/s", "/new", "/e", "/d/..", "k", ""} {
				for _, c := range []api.Call{{Op: op, Path: root, Other: other, Flags: 7, Data: "t"}, {Op: op, Path: other, Other: root, Flags: 7, Data: "t"}} {
					if r := l.ask(c); r.Err == api.OK {
						l = world(t)
					}
				}
			}
		}
	}
	l = world(t)
	l.wantErr(api.ErrDir, open("/", 1), unlink("/"), link("/", "/x"), truncate("/", 0), punch("/", 0, 0), reserve("/", 0, 0))
	l.wantErr(api.ErrExist, mkdir("/"), link("/f", "/"), linkto("a", "/"))
	l.wantErr(api.ErrArg, rmdir("/"), readlink("/"), rename("/", "/x"), rename("/", "/"), rename("/f", "/"), rename("/e", "/"))
}

// All calls on all kinds of paths, each with each.
func TestAllCallsOnAllPaths(t *testing.T) {
	var paths []string
	for _, p := range []string{"/", "/d", "/e", "/f", "/g", "/s", "/sd", "/sx", "/se", "/sf", "/n", "/nd", "/nn", "/l", "/new", "/d/x", "/d/f", "/d/sub", "/d/up", "/d/dot", "/d/top", "/d/new", "/sd/x", "/sd/new", "/e/new", "/f/x", "/no/x", "/d/sub/new", "/d/sub/..", "/d/dot/dot"} {
		paths = append(paths, p, p+"/", p+"/..")
	}
	paths = append(paths, "", "x", "/d/\x00", "/"+text("n", 33), "/"+text("n", 32), text("/", 257), "/d/dot/.", "/d/sub/../sub")
	for op := range 26 {
		l := world(t)
		for _, p := range paths {
			others := []string{"k"}
			if op == api.Link || op == api.Rename {
				others = paths
			}
			for _, other := range others {
				c := api.Call{Op: op, Path: p, Other: other, Flags: 7, Data: "x"}
				if r := l.ask(c); r.Err == api.OK {
					l = world(t)
				}
			}
		}
	}
}

// P16.1: Rename.

func TestRename(t *testing.T) {
	l := full(t)
	l.want(rename("/f", "/e/f"), ok)
	l.wantErr(api.ErrNone, lstat("/f"))
	l.want(stat("/e/f"), is(api.File, 3, 5))
	l.want(rename("/e/f", "/x"), ok)
	l.want(rename("/x", "/d/x"), ok)
	l.want(stat("/g"), is(api.File, 3, 5))
	l.want(stat("/d"), is(api.Folder, 3, 6))
	l.want(rename("/s", "/e/s"), ok)
	l.want(readlink("/e/s"), data("f"))
	l.want(rename("/sd/sub", "/e/sub/"), ok)
	l.want(stat("/d"), is(api.Folder, 2, 5))
	l.want(stat("/e"), is(api.Folder, 3, 2))
	l.want(stat("/e/sub/.."), is(api.Folder, 3, 2))
	l.want(rename("/e", "/d/e"), ok)
	l.want(stat("/d/e/sub/../.."), is(api.Folder, 3, 6))
	l.want(stat("/d/e/sub/../../.."), is(api.Folder, 5, 13))
	l.want(rename("/sd/", "/moved"), ok)
	l.want(stat("/moved/e/sub"), is(api.Folder, 2, 0))
	l.want(rename("/moved", "/n/"), ok)
	l.want(stat("/new/e/sub"), is(api.Folder, 2, 0))
	l.want(rename("/new/e", "/new/e2"), ok)
	l.want(stat("/new"), is(api.Folder, 3, 6))
}

func TestRenameErrors(t *testing.T) {
	l := full(t)
	l.oks(mkdir("/e/a"), mkdir("/e/a/b"), mkdir("/free"))
	l.wantErr(api.ErrArg, rename("", "/x"), rename("x", ""), rename("/f\x00", "/x"))
	l.wantErr(api.ErrLong, rename("/"+text("n", 33), ""))
	l.wantErr(api.ErrNone, rename("/none", "/x"), rename("/none", ""), rename("/none/x", "/f"), rename("/none/", "/"), rename("/n/", "/x"))
	l.wantErr(api.ErrNotDir, rename("/f/", "/x"), rename("/f/x", ""), rename("/s/", "/x"))
	l.wantErr(api.ErrLoop, rename("/l/", ""), rename("/l/x", "/x"))
	l.wantErr(api.ErrArg, rename("/", "/x"), rename("/", text("/", 257)), rename("/", "/none/x"), rename("/", "/"), rename("/d/..", "/x"), rename("/d/sub/..", "/x"), rename("/d/up/", "/x"), rename("/d/top/", "/x"), rename("/d/sub/..", "/d"))
	l.wantErr(api.ErrArg, rename("/f", ""), rename("/d", "x"), rename("/e", "/\x00"))
	l.wantErr(api.ErrLong, rename("/f", "/"+text("n", 33)), rename("/e", text("/", 257)), rename("/e", "/e/"+text("n", 33)))
	l.wantErr(api.ErrNone, rename("/f", "/none/x"), rename("/e", "/e/none/x"))
	l.wantErr(api.ErrNotDir, rename("/f", "/f/x"), rename("/f", "/f/"), rename("/e", "/f/x"), rename("/e", "/s/"), rename("/f", "/g/"))
	l.wantErr(api.ErrLoop, rename("/f", "/l/"), rename("/e", "/l/x"))
	l.wantErr(api.ErrArg, rename("/f", "/"), rename("/e", "/"), rename("/e", "/e/.."), rename("/f", "/d/.."), rename("/d", "/d/sub/.."), rename("/e", "/e/a/.."), rename("/e", "/d/top/"))
	l.wantErr(api.ErrArg, rename("/e", "/e/x"), rename("/e", "/e/a"), rename("/e", "/e/a/"), rename("/e", "/e/a/b"), rename("/e", "/e/a/b/c"), rename("/e", "/e/a/b/c/"), rename("/e/a", "/e/a/b"), rename("/e", "/se/x"), rename("/d", "/d/x"), rename("/d", "/d/f"), rename("/d", "/sd/new"), rename("/d", "/d/dot"))
	l.wantErr(api.ErrNotDir, rename("/e", "/f"), rename("/free", "/s"), rename("/free", "/sd"), rename("/free", "/n"), rename("/free", "/d/x"), rename("/free", "/l"))
	l.wantErr(api.ErrFilled, rename("/free", "/d"), rename("/free", "/d/"), rename("/free", "/sd/"), rename("/e/a", "/e"), rename("/e/a/b", "/e"), rename("/free", "/m"))
	l.wantErr(api.ErrDir, rename("/f", "/d"), rename("/f", "/free"), rename("/f", "/free/"), rename("/s", "/free"), rename("/d/x", "/d"), rename("/f", "/sd/"), rename("/n", "/e"))
	l.wantErr(api.ErrNotDir, rename("/f", "/x/"), rename("/f", "/x/."), rename("/s", "/x/"), rename("/f", "/n/"), rename("/f", "/nd/"), rename("/f", "/m/x/"))
	l.wantErr(api.ErrMany, rename("/free", "/m/x"), rename("/free", "/m/x/"), rename("/e/a/b", "/m/x"))
	l.wantErr(api.ErrNotDir, rename("/free", "/m/f"))
	l.wantErr(api.ErrArg, rename("/m", "/m/x"), rename("/m", "/m/1/x"))
}

// What a Rename does where the Folder has 100 Links.
func TestRenameIntoAFullFolder(t *testing.T) {
	l := full(t)
	l.want(rename("/m/1", "/m/x"), ok)
	l.want(rename("/f", "/m/1"), ok)
	l.want(rename("/s", "/m/s"), ok)
	l.want(stat("/m"), is(api.Folder, 100, 101))
	l.want(rename("/e", "/m/x"), ok)
	l.want(stat("/m"), is(api.Folder, 100, 101))
	l.want(stat("/m/x/.."), is(api.Folder, 100, 101))
	l.want(rename("/m/x", "/m/2"), ok)
	l.want(stat("/m"), is(api.Folder, 99, 100))
	l.want(rename("/d", "/m/d"), ok)
	l.want(stat("/m"), is(api.Folder, 100, 101))
	l.wantErr(api.ErrMany, rename("/hl", "/m/hl"))
	l.want(rename("/m/3", "/three"), ok)
	l.want(rename("/hl", "/m/hl"), ok)
}

func TestRenameOntoOneThing(t *testing.T) {
	l := world(t)
	was := l.tree.Dump()
	for _, c := range []api.Call{rename("/f", "/f"), rename("/f", "/g"), rename("/g", "/f"), rename("/f", "/d/f"), rename("/d", "/d"), rename("/d", "/d/"), rename("/d/", "/sd/"), rename("/d/sub", "/sd/sub/."), rename("/s", "/s"), rename("/d", "/d/../d"), rename("/l", "/l")} {
		l.want(c, ok)
		if !sameDump(l.tree.Dump(), was) {
			t.Errorf("%+v changes the tree", c)
		}
	}
	l.oks(link("/s", "/e/s"))
	l.want(rename("/s", "/e/s"), ok)
	l.want(lstat("/s"), is(api.Symlink, 2, 1))
}

// What stands at Other goes.
func TestRenameReplaces(t *testing.T) {
	l := world(t)
	l.want(rename("/d/x", "/f"), ok)
	l.want(stat("/g"), is(api.File, 2, 5))
	l.want(stat("/f"), is(api.File, 1, 4))
	l.want(rename("/s", "/g"), ok)
	l.want(readlink("/g"), data("f"))
	l.want(stat("/d/f"), is(api.File, 1, 5))
	l.want(open("/d/f", forBoth), num(0))
	l.want(rename("/f", "/d/f"), ok)
	l.want(read(0, 9), got("hello"))
	l.want(rename("/d/f", "/sd"), ok)
	l.want(stat("/sd"), is(api.File, 1, 4))
	l.want(stat("/d"), is(api.Folder, 3, 4))
	l.want(rename("/d/sub", "/e"), ok)
	l.want(stat("/d"), is(api.Folder, 2, 3))
	l.want(stat("/"), is(api.Folder, 4, 11))
	l.want(rename("/d", "/e/"), ok)
	l.want(stat("/"), is(api.Folder, 3, 10))
	l.want(readdir("/e"), names("dot", "top", "up"))
	l.want(stat("/e/up"), is(api.Folder, 3, 10))
}

// P16.1: paths.

func TestGoingUp(t *testing.T) {
	l := world(t)
	for _, p := range []string{"/..", "/../..", "/../../d/..", "/d/..", "/d/sub/../..", "/d/sub/../../..", "/e/../d/../", "/d/up", "/d/sub/../up/.", "/d/dot/dot/../d/.."} {
		l.want(stat(p), is(api.Folder, 4, 13))
	}
	l.want(stat("/../d/sub/.."), is(api.Folder, 3, 6))
	l.want(stat("/../f"), is(api.File, 3, 5))
	l.wantErr(api.ErrNotDir, stat("/f/.."), stat("/f/../f"), stat("/s/.."))
	l.wantErr(api.ErrNone, stat("/none/.."), stat("/none/../f"), mkdir("/new/.."))
	l.want(stat("/sx/"+"."), failed(api.ErrNotDir))
	l.want(stat("/sd/sub/.."), is(api.Folder, 3, 6))
	l.want(stat("/sd/.."), is(api.Folder, 4, 13))
	l.want(mkdir("/e/../e/a"), ok)
	l.want(stat("/e"), is(api.Folder, 3, 1))
}

func TestLongNamesAndPaths(t *testing.T) {
	l := born(t)
	long := text("n", 32)
	l.want(mkdir("/"+long), ok)
	l.want(readdir("/"), names(long))
	l.wantErr(api.ErrLong, mkdir("/"+long+"n"), mkdir("/a/"+long+"n"))
	p := ""
	for range 7 {
		p += "/" + long
		l.ask(mkdir(p))
	}
	l.want(mkdir(p+"/"+text("m", 24)), ok)
	l.wantErr(api.ErrLong, mkdir(p+"/"+text("m", 25)), stat(p+"/"+text("m", 24)+"/"))
	l.want(stat(p+text("/", 25)), is(api.Folder, 3, 1))
	l.want(stat(text("/.", 128)), is(api.Folder, 3, 1))
	l.want(stat(text("/..", 85)+"/"), is(api.Folder, 3, 1))
}

// A path of 256 bytes doesn't bound how deep a tree is.
func TestDeepTrees(t *testing.T) {
	l := born(t)
	l.oks(mkdir("/a"))
	p := ""
	for range 40 {
		p += "/a"
		l.ask(mkdir(p))
	}
	l.oks(linkto(p, "/s1"))
	for k := 1; k < 8; k++ {
		q := "/s" + strconv.Itoa(k)
		for range 40 {
			q += "/a"
			l.ask(mkdir(q))
		}
		l.oks(linkto(q, "/s"+strconv.Itoa(k+1)))
	}
	l.want(stat("/s7/a"), is(api.Folder, 3, 1))
	l.want(stat("/s8/.."), is(api.Folder, 3, 1))
	l.wantErr(api.ErrArg, rename("/a", "/s8/x"))
	l.want(rename("/a/a", "/x"), ok)
	l.want(lstat("/s8"), is(api.Symlink, 1, len("/s7")+80))
	c := l.copied()
	c.oks(rename("/x", "/a/x"))
	l.wantTree(api.Call{})
}

// P16.1: Symlinks.

func TestSymlinkAsTheLastPart(t *testing.T) {
	l := world(t)
	l.want(stat("/s"), is(api.File, 3, 5))
	l.want(lstat("/s"), is(api.Symlink, 1, 1))
	l.wantErr(api.ErrNotDir, stat("/s/"), lstat("/s/"), lstat("/s/."), lstat("/s/.."))
	l.want(lstat("/sd/"), is(api.Folder, 3, 6))
	l.want(lstat("/sd/."), is(api.Folder, 3, 6))
	l.want(lstat("/se/"), is(api.Folder, 2, 0))
	l.want(stat("/se"), is(api.Folder, 2, 0))
	l.want(lstat("/sd/up"), is(api.Symlink, 1, 2))
	l.want(lstat("/sd/up/"), is(api.Folder, 4, 13))
	l.want(stat("/d/dot"), is(api.Folder, 3, 6))
	l.want(stat("/d/dot/dot/dot/x"), is(api.File, 1, 4))
	l.want(stat("/d/top"), is(api.Folder, 4, 13))
	l.want(stat("/d/top/d/top/f"), is(api.File, 3, 5))
	l.wantErr(api.ErrNone, stat("/n"), lstat("/n/"), stat("/nn"), stat("/nd"))
}

// Where a target has to be a directory, and was the last part, what it leads to has to be one too.
func TestTargetsThatHaveToBeADirectory(t *testing.T) {
	l := world(t)
	l.oks(linkto("zz/", "/e/a"), linkto("/f/", "/e/b"), linkto("/f/.", "/e/c"), linkto("/f/..", "/e/d"), linkto("/sd/", "/e/e"), linkto("/s/", "/e/f"), linkto("/d/", "/e/g"), linkto("g", "/e/h"), linkto("x/", "/e/i"), linkto("i", "/e/j"))
	l.wantErr(api.ErrNone, stat("/e/a"))
	l.wantErr(api.ErrNotDir, stat("/e/b"), stat("/e/c"), stat("/e/d"), stat("/e/f"))
	l.want(stat("/e/e"), is(api.Folder, 3, 6))
	l.want(stat("/e/h"), is(api.Folder, 3, 6))
	l.want(stat("/e/g/x"), is(api.File, 1, 4))
	l.want(stat("/e/h/x"), is(api.File, 1, 4))
	l.want(stat("/e/b/../f"), failed(api.ErrNotDir))
	l.wantErr(api.ErrDir, open("/e/i", making), open("/e/j", making))
	l.want(mkdir("/e/j/"), ok)
	l.want(stat("/e/x"), is(api.Folder, 2, 0))
	l.want(open("/nd/y", making), failed(api.ErrNone))
	l.want(mkdir("/nd/"), ok)
	l.want(open("/nd/y", making), num(0))
	l.want(stat("/new/y"), is(api.File, 1, 0))
}

// A way may have 8 targets; the 9th is ErrLoop.
func TestLoops(t *testing.T) {
	l := world(t)
	l.oks(linkto("f", "/1"))
	for k := 2; k <= 10; k++ {
		l.oks(linkto(strconv.Itoa(k-1), "/"+strconv.Itoa(k)))
	}
	l.want(stat("/8"), is(api.File, 3, 5))
	l.want(lstat("/9"), is(api.Symlink, 1, 1))
	l.wantErr(api.ErrLoop, stat("/9"), stat("/10"), open("/9", making), lstat("/9/"), lstat("/9/x"))
	l.wantErr(api.ErrNotDir, lstat("/8/"), lstat("/8/x"))
	l.want(stat("/d"+text("/dot", 8)), is(api.Folder, 3, 6))
	l.wantErr(api.ErrLoop, stat("/d"+text("/dot", 9)), stat("/d"+text("/dot", 8)+"/up"), lstat("/d"+text("/dot", 9)+"/none"))
	l.want(lstat("/d"+text("/dot", 8)+"/up"), is(api.Symlink, 1, 2))
	l.want(lstat("/d"+text("/dot", 9)), is(api.Symlink, 1, 1))
	l.want(stat("/d"+text("/dot", 7)+"/up"), is(api.Folder, 4, 23))
	l.wantErr(api.ErrLoop, lstat("/d"+text("/dot", 8)+"/up/"))
	l.want(open("/d"+text("/dot", 8)+"/new", making), num(0))
	l.oks(linkto("b", "/e/a"), linkto("a", "/e/b"), linkto("c/c", "/e/c"), linkto("/e/d/x", "/e/d"))
	l.wantErr(api.ErrLoop, stat("/e/a"), stat("/e/b"), stat("/e/c"), stat("/e/d"), stat("/e/a/x"), mkdir("/e/a/"))
}

// What a path of Rmdir or Rename reaches by a target has the place that it would have by the target's own parts.
func TestPlacesBehindTargets(t *testing.T) {
	l := world(t)
	l.oks(linkto("../d/sub", "/e/a"), linkto("../d/sub/..", "/e/b"), linkto("/d/sub/.", "/e/c"), linkto("c", "/e/d"))
	l.wantErr(api.ErrArg, rename("/e/b/", "/x"), rmdir("/e/b/"))
	l.want(rename("/e/a/", "/x"), ok)
	l.want(stat("/x"), is(api.Folder, 2, 0))
	l.want(rename("/x", "/e/d/"), ok)
	l.want(stat("/d/sub"), is(api.Folder, 2, 0))
	l.want(rmdir("/e/d/"), ok)
	l.wantErr(api.ErrNone, stat("/d/sub"))
	l.wantErr(api.ErrFilled, rmdir("/d/dot/"))
	l.want(rename("/d/dot/", "/y"), ok)
	l.want(stat("/y/x"), is(api.File, 1, 4))
}

// P16.1: a File without entries goes on as long as it is open.

func TestAFileWithoutEntries(t *testing.T) {
	l := world(t)
	l.want(open("/w", making), num(0))
	l.want(write(0, "abc"), num(3))
	l.want(unlink("/w"), ok)
	l.wantErr(api.ErrNone, stat("/w"), open("/w", 1))
	l.want(write(0, "def"), num(3))
	l.want(seek(0, 0, 0), num(0))
	l.want(read(0, 9), got("abcdef"))
	l.want(seek(0, 0, 2), num(6))
	l.want(fsync(0), ok)
	l.want(open("/w", making), num(1))
	l.want(read(1, 9), got(""))
	l.want(write(1, "new"), num(3))
	l.want(seek(0, -6, 1), num(0))
	l.want(read(0, 3), got("abc"))
	l.want(shut(0), ok)
	l.want(open("/w", 1), num(0))
	l.want(read(0, 9), got("new"))
}

func TestAFileInSeveralSlots(t *testing.T) {
	l := world(t)
	l.oks(open("/f", forBoth), open("/g", forBoth), unlink("/f"), unlink("/g"), unlink("/d/f"))
	l.want(write(0, "J"), num(1))
	l.want(shut(0), ok)
	l.want(read(1, 9), got("Jello"))
	l.want(open("/f", making), num(0))
	l.want(seek(1, 0, 2), num(5))
	l.want(seek(0, 0, 2), num(0))
}

// P16.1: Dump.

func TestDump(t *testing.T) {
	l := born(t)
	l.oks(mkdir("/b"), mkdir("/b/z"), mkdir("/b/a"), linkto("../f", "/b/a/s"), open("/f", making), write(0, "a\x00bc"), seek(0, 600, 0), write(0, "\x00"), setattr("/f", "k", "v"), setattr("/f", "a", ""), setattr("/", "r", "1"))
	l.oks(link("/f", "/b/z/g"), link("/f", "/b!"), link("/b/a/s", "/s"), setattr("/b", "x", "y"), mkdir("/B"))
	runs := []api.Run{{At: 0, Data: "a"}, {At: 2, Data: "bc"}}
	attrs := []api.Pair{{Name: "a"}, {Name: "k", Value: "v"}}
	want := []api.Entry{
		{Path: "/", Kind: api.Folder, Links: 4, Size: 5, Attrs: []api.Pair{{Name: "r", Value: "1"}}, Same: 0},
		{Path: "/B", Kind: api.Folder, Links: 2, Size: 0, Same: 1},
		{Path: "/b", Kind: api.Folder, Links: 4, Size: 2, Attrs: []api.Pair{{Name: "x", Value: "y"}}, Same: 2},
		{Path: "/b/a", Kind: api.Folder, Links: 2, Size: 1, Same: 3},
		{Path: "/b/a/s", Kind: api.Symlink, Links: 2, Size: 4, Target: "../f", Same: 4},
		{Path: "/b/z", Kind: api.Folder, Links: 2, Size: 1, Same: 5},
		{Path: "/b/z/g", Kind: api.File, Links: 3, Size: 601, Runs: runs, Attrs: attrs, Same: 6},
		{Path: "/b!", Kind: api.File, Links: 3, Size: 601, Runs: runs, Attrs: attrs, Same: 6},
		{Path: "/f", Kind: api.File, Links: 3, Size: 601, Runs: runs, Attrs: attrs, Same: 6},
		{Path: "/s", Kind: api.Symlink, Links: 2, Size: 4, Target: "../f", Same: 4},
	}
	if is := l.tree.Dump(); !sameDump(is, want) {
		a, b := toldDump(is, want)
		t.Errorf("Dump tells\n%+v, want\n%+v", a, b)
	}
}

func TestSameOfManyEntries(t *testing.T) {
	l := full(t)
	firsts := map[int]int{}
	for k, e := range l.tree.Dump() {
		firsts[e.Same]++
		if firsts[e.Same] == 1 && e.Same != k {
			t.Errorf("%+v stands at %d", e, k)
		}
	}
	many := 0
	for _, n := range firsts {
		many = max(many, n)
	}
	if many != 100 {
		t.Errorf("%d entries of /h, want 100", many)
	}
}

// Two Files that look the same are two.
func TestSameOfLikeFiles(t *testing.T) {
	l := born(t)
	l.file("/a", "x")
	l.file("/b", "x")
	l.oks(linkto("a", "/s"), linkto("a", "/t"))
	for k, e := range l.tree.Dump() {
		if e.Same != k {
			t.Errorf("%+v stands at %d", e, k)
		}
	}
}

// P16.1: no tree at all.

func TestNilTree(t *testing.T) {
	var tree *Tree
	for _, op := range append(edges(), 10, 11, 12, 13, 14, 15, 16, 17, 18, 19, 20, 21, 22, 23, 24, 25) {
		if r := tree.Do(api.Call{Op: op, Path: "/", Other: "/", Flags: 7}); !sameReply(r, failed(api.ErrDown)) {
			t.Errorf("Do(%d) of no tree: %+v", op, r)
		}
	}
	tree.Shut()
	if l := tree.Dump(); len(l) != 0 {
		t.Errorf("Dump of no tree: %+v", l)
	}
	if tree.Copy() != nil {
		t.Error("Copy of no tree is one")
	}
}

// A Tree that New did not make is one of the root alone.
func TestZeroTree(t *testing.T) {
	l := &life{t, &Tree{}, newPlain()}
	l.tree.Shut()
	l.wantTree(api.Call{})
	l.copied().oks(mkdir("/a"), mkdir("/a/b"))
	l.want(stat("/.."), is(api.Folder, 2, 0))
	l = &life{t, &Tree{}, newPlain()}
	l.want(open("/a", making), num(0))
	l.want(stat("/"), is(api.Folder, 2, 1))
	if is := (&Tree{}).Copy().Dump(); !slices.EqualFunc(is, New().Dump(), sameEntry) {
		t.Errorf("the Copy of a zero tree: %+v", is)
	}
}
