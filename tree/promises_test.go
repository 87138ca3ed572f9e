package tree

import (
	"math/rand"
	"slices"
	"strconv"
	"testing"

	"undercroft/api"
)

// P16.1 and P16.2: long runs of any calls whatever, each reply and each Dump held against the document's words, and what holds of every tree asked behind each call.

func (l *life) live(r *rand.Rand, calls int) {
	l.t.Helper()
	for range calls {
		l.ask(l.anyCall(r, anyOp(r)))
	}
}

func TestAnyLives(t *testing.T) {
	for seed := range int64(80) {
		r := rand.New(rand.NewSource(seed))
		l := born(t)
		for range r.Intn(8) {
			l.live(r, r.Intn(200))
			l.shut()
		}
		l.live(r, 400)
	}
}

func TestLivesOfAWorld(t *testing.T) {
	for seed := range int64(40) {
		r := rand.New(rand.NewSource(1000 + seed))
		l := world(t)
		l.live(r, 200)
	}
}

func TestLivesOfAFullWorld(t *testing.T) {
	r := rand.New(rand.NewSource(161))
	l := full(t)
	some := func() string {
		return pick(r, "/m", "/h", "/hl", "/d", "/e", "", "/m/1") + "/" + strconv.Itoa(r.Intn(110))
	}
	for range 500 {
		c := l.anyCall(r, pick(r, api.Mkdir, api.Rmdir, api.Unlink, api.Link, api.Rename, api.Rename, api.Rename, anyOp(r)))
		if r.Intn(3) > 0 {
			c.Path = pick(r, some(), some(), "/h", "/m", "/d/sub")
		}
		if r.Intn(3) > 0 {
			c.Other = some()
		}
		l.ask(c)
	}
}

// P16.2: what is written is read, whichever slots the File is open in.
func TestWhatIsWrittenIsRead(t *testing.T) {
	r := rand.New(rand.NewSource(162))
	for range 40 {
		l := world(t)
		content := []byte("hello")
		for range 8 {
			l.oks(open(pick(r, "/f", "/g", "/d/f", "/s"), forBoth|pick(r, 0, 0, 0, api.Append)))
		}
		l.oks(unlink("/g"))
		for range 60 {
			fd, data := r.Intn(8), anyData(r)
			l.ask(seek(fd, r.Intn(1+pick(r, len(content), 65536)), 0))
			n := l.ask(write(fd, data)).N
			at := l.ask(seek(fd, 0, 1)).N - n
			if end := at + n; n > 0 && end > len(content) {
				content = append(content, make([]byte, end-len(content))...)
			}
			copy(content[min(at, len(content)):], data[:n])
			fd = r.Intn(8)
			from := r.Intn(len(content) + 1)
			many := r.Intn(pick(r, 10, 1000, 100000))
			l.want(seek(fd, from, 0), num(from))
			l.want(read(fd, many), got(string(content[from:min(from+many, len(content))])))
		}
		l.want(stat("/f"), is(api.File, 2, len(content)))
	}
}

// P16.2: each File goes on until it has neither an entry nor a slot, and what others do to their Files is nothing to it.
func TestFilesAreApart(t *testing.T) {
	l := born(t)
	for k := range 8 {
		p := "/" + strconv.Itoa(k)
		l.want(open(p, making), num(k))
		l.want(write(k, text(strconv.Itoa(k), 600)), num(512))
		if k%2 == 1 {
			l.oks(unlink(p))
		}
	}
	for k := range 8 {
		l.want(seek(k, 1, 0), num(1))
		l.want(read(k, 600), got(text(strconv.Itoa(k), 511)))
	}
	l.wantErr(api.ErrNone, stat("/1"))
	l.shut()
	l.want(readdir("/"), names("0", "2", "4", "6"))
}

// P16.3: Shut changes nothing that Dump tells; all slots are free.
func TestShut(t *testing.T) {
	for seed := range int64(40) {
		r := rand.New(rand.NewSource(2000 + seed))
		l := world(t)
		l.live(r, 150)
		was := l.tree.Dump()
		l.tree.Shut()
		l.model.shut()
		if !sameDump(l.tree.Dump(), was) {
			t.Fatal("Shut changes the tree")
		}
		for fd := range 8 {
			l.wantErr(api.ErrFd, shut(fd), read(fd, 0), write(fd, ""), seek(fd, 0, 0), fsync(fd))
		}
		l.oks(mkdir("/a fresh one"))
		for fd := range 8 {
			l.want(open("/a fresh one/f", api.ForRead|api.Create), num(fd))
		}
		l.wantErr(api.ErrMany, open("/a fresh one/f", 1))
		l.live(r, 50)
	}
}

// P16.3: Copies go on apart from one another; at first they are the same, slots too.
func TestCopies(t *testing.T) {
	for seed := range int64(40) {
		r := rand.New(rand.NewSource(3000 + seed))
		l := world(t)
		l.live(r, 100)
		lives := []*life{l, l.copied()}
		lives = append(lives, lives[1].copied())
		for _, l := range lives {
			l.wantTree(api.Call{})
		}
		for range 10 {
			k := r.Intn(3)
			lives[k].live(r, 20)
			if r.Intn(8) == 0 {
				lives[k].shut()
			}
			if r.Intn(4) == 0 {
				lives[r.Intn(3)] = lives[k].copied()
			}
			for _, l := range lives {
				l.wantTree(api.Call{})
			}
		}
	}
}

// A Copy has the same slots, a File without entries and one in several slots too.
func TestCopyOfSlots(t *testing.T) {
	l := world(t)
	l.oks(open("/f", forBoth), open("/g", api.ForRead), open("/w", making|api.Append), write(2, "abc"), open("/w", forBoth), unlink("/w"), seek(0, 3, 0), shut(1))
	other := l.copied()
	for _, l := range []*life{l, other} {
		l.want(read(0, 1), got("l"))
		l.wantErr(api.ErrFd, read(1, 1))
		l.want(read(3, 9), got("abc"))
		l.want(write(3, "de"), num(2))
		l.want(write(2, "f"), num(1))
		l.want(seek(3, 0, 0), num(0))
		l.want(read(3, 9), got("abcdef"))
		l.want(write(0, "L"), num(1))
	}
	l.want(write(0, "!"), num(1))
	l.want(stat("/g"), is(api.File, 3, 6))
	other.want(stat("/g"), is(api.File, 3, 5))
	other.want(open("/g", api.ForWrite|api.Trunc), num(1))
	l.wantErr(api.ErrFd, fsync(1))
	l.want(stat("/f"), is(api.File, 3, 6))
	other.want(write(2, "g"), num(1))
	l.want(seek(3, 0, 2), num(6))
	other.want(seek(3, 0, 2), num(7))
}

// P16.4: an answer is new memory; what is handed in is not kept.

// scrawl: changes all of a list, its spare room too.
func scrawl[T any](l []T, with T) {
	l = l[:cap(l)]
	for k := range l {
		l[k] = with
	}
}

func scrawlDump(l []api.Entry) {
	for _, e := range l {
		scrawl(e.Runs, api.Run{At: -1, Data: "scrawled"})
		scrawl(e.Attrs, api.Pair{Name: "scrawled"})
	}
	scrawl(l, api.Entry{Path: "scrawled"})
}

func TestAnswersAreNewMemory(t *testing.T) {
	for seed := range int64(40) {
		r := rand.New(rand.NewSource(4000 + seed))
		l := world(t)
		l.oks(mkdir("/list"), setattr("/list", "a", "b"), setattr("/list", "c", ""))
		for k := range 20 {
			l.oks(mkdir("/list/" + strconv.Itoa(k)))
		}
		l.live(r, 60)
		for _, e := range l.model.dump() {
			for _, c := range []api.Call{readdir(e.Path), attrs(e.Path)} {
				first, second := l.tree.Do(c), l.tree.Do(c)
				scrawl(first.Names, "scrawled")
				if want := l.model.do(c); !sameReply(second, want) || !sameReply(l.tree.Do(c), want) {
					t.Fatalf("a reply of %+v shares memory", toldCall(c))
				}
			}
		}
		first, second := l.tree.Dump(), l.tree.Dump()
		other := l.copied()
		scrawlDump(first)
		if !sameDump(second, l.model.dump()) {
			t.Fatal("two Dumps share memory")
		}
		l.wantTree(api.Call{})
		other.wantTree(api.Call{})
		l.live(r, 40)
		other.wantTree(api.Call{})
	}
}

// No two lists of one Dump share memory, those of one thing neither.
func TestListsOfADumpAreApart(t *testing.T) {
	l := world(t)
	dump := l.tree.Dump()
	for k := range dump {
		scrawl(dump[k].Runs, api.Run{At: -1, Data: "scrawled"})
		scrawl(dump[k].Attrs, api.Pair{Name: "scrawled"})
		if want := l.model.dump()[k+1:]; !sameDump(dump[k+1:], want) {
			t.Fatalf("%+v shares memory", dump[k])
		}
	}
}

// Behind a call its answers stay as they are, whatever is called then; and so does the tree, whatever is done to the call.
func TestAnswersStay(t *testing.T) {
	r := rand.New(rand.NewSource(163))
	l := world(t)
	list, dump := l.tree.Do(readdir("/d")), l.tree.Dump()
	keys := l.tree.Do(attrs("/f"))
	were := l.model.dump()
	c := setattr("/f", "n", "m")
	l.want(c, ok)
	c.Path, c.Other, c.Data = "/g", "x", "y"
	l.want(getattr("/f", "n"), data("m"))
	l.live(r, 300)
	if !slices.Equal(list.Names, []string{"dot", "f", "sub", "top", "up", "x"}) || !slices.Equal(keys.Names, []string{"k"}) || !sameDump(dump, were) {
		t.Error("an answer changes behind its call")
	}
}

// P1: what a call answers hangs on the call and the tree alone: equal trees answer the same, whatever was asked of them between.
func TestEqualTreesAnswerTheSame(t *testing.T) {
	for seed := range int64(30) {
		r := rand.New(rand.NewSource(5000 + seed))
		l := world(t)
		other := l.tree.Copy()
		for range 100 {
			c := l.anyCall(r, anyOp(r))
			a := l.ask(c)
			if b := other.Do(c); !sameReply(a, b) {
				t.Fatalf("%+v: %+v of one tree, %+v of its like", toldCall(c), toldReply(a), toldReply(b))
			}
			other.Dump()
			other.Do(stat("/none"))
			other.Copy().Shut()
		}
		if !sameDump(l.tree.Dump(), other.Dump()) {
			t.Fatal("two like trees become unlike")
		}
	}
}
