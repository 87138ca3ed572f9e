package tree

import (
	"math"
	"math/rand"
	"slices"
	"strconv"
	"strings"
	"testing"

	"undercroft/api"
)

// Short for calls.

func open(p string, flags int) api.Call  { return api.Call{Op: api.Open, Path: p, Flags: flags} }
func shut(fd int) api.Call               { return api.Call{Op: api.Close, Fd: fd} }
func read(fd, n int) api.Call            { return api.Call{Op: api.Read, Fd: fd, N: n} }
func write(fd int, data string) api.Call { return api.Call{Op: api.WriteTo, Fd: fd, Data: data} }
func seek(fd, n, from int) api.Call      { return api.Call{Op: api.Seek, Fd: fd, N: n, M: from} }
func fsync(fd int) api.Call              { return api.Call{Op: api.Fsync, Fd: fd} }
func by(op int, p string) api.Call       { return api.Call{Op: op, Path: p} }
func stat(p string) api.Call             { return by(api.Stat, p) }
func lstat(p string) api.Call            { return by(api.Lstat, p) }
func mkdir(p string) api.Call            { return by(api.Mkdir, p) }
func rmdir(p string) api.Call            { return by(api.Rmdir, p) }
func unlink(p string) api.Call           { return by(api.Unlink, p) }
func readlink(p string) api.Call         { return by(api.Readlink, p) }
func readdir(p string) api.Call          { return by(api.Readdir, p) }
func attrs(p string) api.Call            { return by(api.Attrs, p) }
func link(p, other string) api.Call      { return api.Call{Op: api.Link, Path: p, Other: other} }
func rename(p, other string) api.Call    { return api.Call{Op: api.Rename, Path: p, Other: other} }
func linkto(data, p string) api.Call     { return api.Call{Op: api.Linkto, Data: data, Path: p} }
func truncate(p string, n int) api.Call  { return api.Call{Op: api.Truncate, Path: p, N: n} }
func punch(p string, n, m int) api.Call  { return api.Call{Op: api.Punch, Path: p, N: n, M: m} }
func reserve(p string, n, m int) api.Call {
	return api.Call{Op: api.Reserve, Path: p, N: n, M: m}
}
func setattr(p, name, value string) api.Call {
	return api.Call{Op: api.Setattr, Path: p, Other: name, Data: value}
}
func getattr(p, name string) api.Call { return api.Call{Op: api.Getattr, Path: p, Other: name} }
func delattr(p, name string) api.Call { return api.Call{Op: api.Delattr, Path: p, Other: name} }

var syncAll = api.Call{Op: api.Sync}

// Short for replies.

var ok = api.Reply{}

func num(n int) api.Reply         { return api.Reply{N: n} }
func data(s string) api.Reply     { return api.Reply{Data: s} }
func got(s string) api.Reply      { return api.Reply{N: len(s), Data: s} }
func names(l ...string) api.Reply { return api.Reply{Names: l} }
func is(kind, links, n int) api.Reply {
	return api.Reply{Status: api.Status{Kind: kind, Links: links, Size: n}}
}

const (
	forBoth = api.ForRead | api.ForWrite
	making  = forBoth | api.Create
)

func text(letter string, n int) string { return strings.Repeat(letter, n) }
func noughts(n int) string             { return text("\x00", n) }

func sameReply(a, b api.Reply) bool {
	return a.Err == b.Err && a.N == b.N && a.Data == b.Data && a.Status == b.Status && slices.Equal(a.Names, b.Names)
}

func sameEntry(a, b api.Entry) bool {
	return a.Path == b.Path && a.Kind == b.Kind && a.Links == b.Links && a.Size == b.Size && a.Target == b.Target && a.Same == b.Same && slices.Equal(a.Runs, b.Runs) && slices.Equal(a.Attrs, b.Attrs)
}

func sameDump(a, b []api.Entry) bool { return slices.EqualFunc(a, b, sameEntry) }

// short: a text's beginning and how long it is.
func short(s string) string {
	if len(s) > 60 {
		return s[:60] + ".. (" + strconv.Itoa(len(s)) + ")"
	}
	return s
}

func toldCall(c api.Call) api.Call {
	c.Path, c.Other, c.Data = short(c.Path), short(c.Other), short(c.Data)
	return c
}

func toldReply(r api.Reply) api.Reply {
	r.Data = short(r.Data)
	return r
}

// toldDump: the first places where the two are unlike.
func toldDump(is, want []api.Entry) (a, b []api.Entry) {
	k := 0
	for k < min(len(is), len(want)) && sameEntry(is[k], want[k]) {
		k++
	}
	return is[k:min(k+2, len(is))], want[k:min(k+2, len(want))]
}

// A life is a tree, and beside it the document's words of it.
type life struct {
	t     *testing.T
	tree  *Tree
	model *plainTree
}

func born(t *testing.T) *life { return &life{t, New(), newPlain()} }

// copied: the tree's Copy, and the words' one.
func (l *life) copied() *life { return &life{l.t, l.tree.Copy(), l.model.copied()} }

// offsets: of each slot that is open where it is; -1: it is free.
func (l *life) offsets() [8]int {
	var all [8]int
	for fd := range all {
		r := l.tree.Do(seek(fd, 0, 1))
		all[fd] = r.N
		if r.Err != api.OK {
			all[fd] = -1
		}
	}
	return all
}

// wantTree: the tree is what the words say.
func (l *life) wantTree(c api.Call) []api.Entry {
	l.t.Helper()
	is, want := l.tree.Dump(), l.model.dump()
	if !sameDump(is, want) {
		a, b := toldDump(is, want)
		l.t.Fatalf("behind %+v Dump tells\n%+v, want\n%+v", toldCall(c), a, b)
	}
	for fd, offset := range l.offsets() {
		s := l.model.slots[fd]
		if offset >= 0 != s.open || s.open && offset != s.offset {
			l.t.Fatalf("behind %+v slot %d is at %d, want %+v", toldCall(c), fd, offset, s)
		}
	}
	return is
}

// ask: the call's reply is what the words say, and so is the tree behind it, which the words know to be sound.
func (l *life) ask(c api.Call) api.Reply {
	l.t.Helper()
	was, were := l.tree.Dump(), l.offsets()
	r, want := l.tree.Do(c), l.model.do(c)
	if !sameReply(r, want) {
		l.t.Fatalf("%+v: %+v, want %+v", toldCall(c), toldReply(r), toldReply(want))
	}
	tree := l.wantTree(c)
	if r.Err != api.OK && (!sameReply(r, failed(r.Err)) || !sameDump(tree, was) || l.offsets() != were) {
		l.t.Fatalf("%+v: %+v, and something is changed", toldCall(c), toldReply(r))
	}
	wantSound(l.t, tree)
	return r
}

// want: the call's reply is r, by the words too.
func (l *life) want(c api.Call, r api.Reply) {
	l.t.Helper()
	if is := l.ask(c); !sameReply(is, r) {
		l.t.Fatalf("%+v: %+v, want %+v", toldCall(c), toldReply(is), toldReply(r))
	}
}

// wantErr: the call's error is err.
func (l *life) wantErr(err api.Errno, calls ...api.Call) {
	l.t.Helper()
	for _, c := range calls {
		l.want(c, failed(err))
	}
}

// oks: calls without an error.
func (l *life) oks(calls ...api.Call) {
	l.t.Helper()
	for _, c := range calls {
		if r := l.ask(c); r.Err != api.OK {
			l.t.Fatalf("%+v: error %d", toldCall(c), r.Err)
		}
	}
}

// shut: all slots are free.
func (l *life) shut() {
	l.t.Helper()
	l.tree.Shut()
	l.model.shut()
	l.wantTree(api.Call{})
}

// file: a File of that content.
func (l *life) file(p, content string) {
	l.t.Helper()
	fd := l.ask(open(p, making)).N
	for len(content) > 0 {
		n := l.ask(write(fd, content)).N
		content = content[n:]
	}
	l.oks(shut(fd))
}

// world: a tree in which all kinds of paths lead somewhere.
func world(t *testing.T) *life {
	l := born(t)
	l.oks(mkdir("/d"), mkdir("/e"), mkdir("/d/sub"))
	l.file("/f", "hello")
	l.file("/d/x", "of d")
	l.oks(link("/f", "/g"), link("/f", "/d/f"), setattr("/f", "k", "v"), setattr("/d", "kd", "vd"))
	l.oks(linkto("f", "/s"), linkto("d", "/sd"), linkto("/d/x", "/sx"), linkto("e/", "/se"), linkto("new", "/n"), linkto("new/", "/nd"), linkto("no/new", "/nn"))
	l.oks(linkto("l", "/l"), linkto("..", "/d/up"), linkto(".", "/d/dot"), linkto("/", "/d/top"), linkto("f/", "/sf"))
	return l
}

// full: besides a Folder /m and a File /h, both with 100 Links, and a File /m/f.
func full(t *testing.T) *life {
	l := world(t)
	l.oks(mkdir("/m"), mkdir("/hl"))
	l.file("/h", "h")
	l.file("/m/f", "")
	for k := range 98 {
		l.oks(mkdir("/m/"+strconv.Itoa(k)), link("/h", "/hl/"+strconv.Itoa(k)))
	}
	l.oks(link("/h", "/hl/last"))
	l.want(stat("/m"), is(api.Folder, 100, 99))
	l.want(stat("/h"), is(api.File, 100, 1))
	return l
}

// edges: numbers at all bounds.
func edges() []int {
	return []int{math.MinInt, math.MinInt + 1, math.MinInt + 65536, -65537, -65536, -2, -1, 0, 1, 2, 3, 4, 5, 6, 7, 8, 9, 255, 256, 511, 512, 513, 65023, 65024, 65025, 65535, 65536, 65537, 131072, math.MaxInt - 65537, math.MaxInt - 65536, math.MaxInt - 65535, math.MaxInt - 1, math.MaxInt}
}

// pick: one of them.
func pick[T any](r *rand.Rand, l ...T) T { return l[r.Intn(len(l))] }

// anyWay: parts with or without strokes between them, most often a few.
func anyWay(r *rand.Rand) string {
	var b strings.Builder
	for range 1 + r.Intn(1+r.Intn(4)) {
		b.WriteString("/")
		switch r.Intn(16) {
		case 0:
			b.WriteString(pick(r, ".", "..", "", "..."))
		case 1:
			b.WriteString("..")
		case 2:
			b.WriteString(pick(r, text("n", 32), text("n", 33), "\xff", "é", "z"))
		default:
			b.WriteString(pick(r, "a", "b", "c", "d"))
		}
	}
	b.WriteString(pick(r, "", "", "", "", "", "", "", "/", "/.", "/..", "//"))
	return b.String()
}

// anyPath: any bytes as a path; often a way, or what leads to something that is there.
func (l *life) anyPath(r *rand.Rand) string {
	k := r.Intn(100)
	switch {
	case k == 0:
		return pick(r, "", "a", "\x00", "/\x00", "/a\x00", "./a", text("/", 257), text("/a", 129), "/"+text("n", 33), "/a/"+text("n", 33)+"/b", "a"+text("/", 300))
	case k == 1:
		return pick(r, "/", "//", "/.", "/..", "/../..", text("/", 256), text("/.", 128), text("/..", 85))
	case k < 50:
		return anyWay(r)
	}
	tree := l.model.dump()
	p := tree[r.Intn(len(tree))].Path
	if len(p) > 240 {
		p = anyWay(r)
	}
	switch {
	case k < 60:
		return p + pick(r, "/", "/.", "/..", "//.", "/./")
	case k < 75:
		return p + anyWay(r)
	}
	return p
}

// anyNumber: near the bounds of what is there, or any.
func anyNumber(r *rand.Rand) int {
	switch k := r.Intn(20); {
	case k == 0:
		return pick(r, edges()...)
	case k < 3:
		return 65536 - r.Intn(600)
	case k < 8:
		return r.Intn(1500)
	}
	return r.Intn(30)
}

// anyData: bytes with noughts among them.
func anyData(r *rand.Rand) string {
	n := r.Intn(12)
	switch r.Intn(12) {
	case 0:
		n = 505 + r.Intn(15)
	case 1:
		n = r.Intn(1200)
	}
	b := make([]byte, n)
	for k := range b {
		b[k] = pick(r, 0, 0, 'x', 'y', byte(r.Intn(256)))
	}
	return string(b)
}

func anyTarget(r *rand.Rand) string {
	switch r.Intn(20) {
	case 0:
		return pick(r, "", "\x00", "a\x00", text("n", 33), text("/", 255), text("/", 256), text("a/", 127)+"a", "/", ".", "..", "../..", "/.", "./", "../")
	case 1:
		return anyWay(r) + anyWay(r)
	case 2, 3, 4, 5, 6:
		return anyWay(r)
	}
	return anyWay(r)[1:]
}

func anyFlags(r *rand.Rand) int {
	switch r.Intn(12) {
	case 0:
		return r.Intn(72) - 4
	case 1:
		return pick(r, edges()...)
	case 2, 3:
		return making | pick(r, 0, api.Excl, api.Trunc, api.Append, api.Trunc|api.Append, api.Excl|api.Trunc|api.Append)
	}
	return pick(r, api.ForRead, api.ForWrite, forBoth, api.ForRead|api.Create, api.ForWrite|api.Create, making, making, forBoth|api.Append, forBoth|api.Trunc)
}

// anyFd: often one that is open.
func (l *life) anyFd(r *rand.Rand) int {
	if r.Intn(30) == 0 {
		return pick(r, -1, 8, 9, math.MinInt, math.MaxInt, r.Intn(8))
	}
	fd := r.Intn(8)
	for range 8 {
		if l.model.slots[fd].open {
			return fd
		}
		fd = (fd + 1) % 8
	}
	return fd
}

func anyName(r *rand.Rand) string {
	return pick(r, "", "a", "b", "c", "key", text("n", 16), text("n", 17), "\x00", "\xff", "/", text("m", 15))
}

// anyCall: a call of that Op with anything in its fields; those of no meaning to it too.
func (l *life) anyCall(r *rand.Rand, op int) api.Call {
	c := api.Call{Op: op, Path: l.anyPath(r), Other: l.anyPath(r), Fd: l.anyFd(r), N: anyNumber(r), M: anyNumber(r), Flags: anyFlags(r), Data: anyData(r)}
	switch op {
	case api.Open:
		if tree := l.model.dump(); r.Intn(2) == 0 {
			c.Path = tree[r.Intn(len(tree))].Path
		}
	case api.Seek:
		c.M = pick(r, 0, 0, 1, 2, -1, 3, c.M)
		if r.Intn(3) == 0 {
			c.N = -c.N
		}
	case api.Linkto:
		c.Data = anyTarget(r)
	case api.Setattr, api.Getattr, api.Delattr:
		c.Other = anyName(r)
		c.Data = pick(r, "", "v", text("w", 63), text("w", 64), text("w", 65), c.Data)
	}
	return c
}

// anyOp: an Op, those that make and fill more often than those that take away.
func anyOp(r *rand.Rand) int {
	switch k := r.Intn(100); {
	case k == 0:
		return pick(r, append(edges(), 25, 26, 10, 11)...)
	case k < 16:
		return api.Open
	case k < 28:
		return api.WriteTo
	case k < 36:
		return pick(r, api.Read, api.Seek)
	case k < 42:
		return api.Mkdir
	case k < 46:
		return api.Linkto
	case k < 52:
		return api.Link
	case k < 62:
		return api.Rename
	}
	return 1 + r.Intn(24)
}
