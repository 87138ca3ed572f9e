package tree

import (
	"bytes"
	"cmp"
	"slices"
	"strings"

	"undercroft/api"
)

// The document's words once more, as plainly as can be, to hold the package against: things in one list, entries in another, contents as bytes. Links and Sizes are counted.

type plainThing struct {
	kind    int
	content []byte // of a File, Size bytes
	target  string
	attrs   []api.Pair
}

type plainEntry struct {
	folder int
	name   string
	thing  int
}

type plainSlot struct {
	open                 bool
	thing, offset, flags int
}

type plainTree struct {
	things  []plainThing // the root first
	entries []plainEntry
	slots   [8]plainSlot
}

func newPlain() *plainTree { return &plainTree{things: []plainThing{{kind: api.Folder}}} }

func (m *plainTree) copied() *plainTree {
	like := &plainTree{things: slices.Clone(m.things), entries: slices.Clone(m.entries), slots: m.slots}
	for k := range like.things {
		like.things[k].content = bytes.Clone(like.things[k].content)
		like.things[k].attrs = slices.Clone(like.things[k].attrs)
	}
	return like
}

func (m *plainTree) kind(thing int) int { return m.things[thing].kind }

// entry: where in the entries that of a Folder with that name stands, or -1.
func (m *plainTree) entry(folder int, name string) int {
	return slices.IndexFunc(m.entries, func(e plainEntry) bool { return e.folder == folder && e.name == name })
}

func (m *plainTree) parent(folder int) int {
	for _, e := range m.entries {
		if e.thing == folder {
			return e.folder
		}
	}
	return 0
}

// names: a Folder's, rising.
func (m *plainTree) names(folder int) []string {
	var names []string
	for _, e := range m.entries {
		if e.folder == folder {
			names = append(names, e.name)
		}
	}
	slices.Sort(names)
	return names
}

func (m *plainTree) links(thing int) int {
	n := 0
	for _, e := range m.entries {
		if m.kind(thing) == api.Folder && e.folder == thing && m.kind(e.thing) == api.Folder || m.kind(thing) != api.Folder && e.thing == thing {
			n++
		}
	}
	if m.kind(thing) == api.Folder {
		n += 2
	}
	return n
}

func (m *plainTree) status(thing int) api.Status {
	s := api.Status{Kind: m.kind(thing), Links: m.links(thing)}
	switch s.Kind {
	case api.File:
		s.Size = len(m.things[thing].content)
	case api.Folder:
		s.Size = len(m.names(thing))
	case api.Symlink:
		s.Size = len(m.things[thing].target)
	}
	return s
}

// plainSplit: layer 14's words.
func plainSplit(p string) (parts []string, dir bool, err api.Errno) {
	if p == "" || p[0] != '/' || strings.Contains(p, "\x00") {
		return nil, false, api.ErrArg
	}
	if len(p) > 256 {
		return nil, false, api.ErrLong
	}
	pieces := strings.Split(p, "/")
	for _, piece := range pieces {
		if len(piece) > 32 {
			return nil, false, api.ErrLong
		}
		if piece != "" && piece != "." {
			parts = append(parts, piece)
		}
	}
	last := pieces[len(pieces)-1]
	return parts, last == "" || last == "." || last == "..", api.OK
}

// A plainSpot is what a path leads to.
type plainSpot struct {
	err    api.Errno
	thing  int // -1: a free place
	folder int // with name the thing's place or the free one; -1: it has no place
	name   string
	dir    bool
}

// free: it leads to a free place.
func (s plainSpot) free() bool { return s.err == api.OK && s.thing < 0 }

func (m *plainTree) walk(p string, followed bool) plainSpot {
	parts, dir, err := plainSplit(p)
	if err != api.OK {
		return plainSpot{err: err}
	}
	return m.walkOn(plainSpot{folder: -1, dir: dir}, parts, followed, 0)
}

func (m *plainTree) walkOn(at plainSpot, parts []string, followed bool, targets int) plainSpot {
	if len(parts) == 0 {
		if at.dir && m.kind(at.thing) != api.Folder {
			return plainSpot{err: api.ErrNotDir}
		}
		return at
	}
	if m.kind(at.thing) != api.Folder {
		return plainSpot{err: api.ErrNotDir}
	}
	part, rest := parts[0], parts[1:]
	if part == ".." {
		return m.walkOn(plainSpot{thing: m.parent(at.thing), folder: -1, dir: at.dir}, rest, followed, targets)
	}
	k := m.entry(at.thing, part)
	if k < 0 && len(rest) > 0 {
		return plainSpot{err: api.ErrNone}
	}
	if k < 0 {
		return plainSpot{thing: -1, folder: at.thing, name: part, dir: at.dir}
	}
	thing := m.entries[k].thing
	if m.kind(thing) != api.Symlink || len(rest) == 0 && !followed && !at.dir {
		return m.walkOn(plainSpot{thing: thing, folder: at.thing, name: part, dir: at.dir}, rest, followed, targets)
	}
	if targets == 8 {
		return plainSpot{err: api.ErrLoop}
	}
	target := m.things[thing].target
	ahead, dir, _ := plainSplit("/" + target)
	if len(rest) == 0 && dir {
		at.dir = true
	}
	if target[0] == '/' {
		at = plainSpot{folder: -1, dir: at.dir}
	}
	return m.walkOn(at, append(slices.Clone(ahead), rest...), followed, targets+1)
}

// by: "by Path".
func (m *plainTree) by(p string, followed bool) plainSpot {
	at := m.walk(p, followed)
	if at.free() {
		at.err = api.ErrNone
	}
	return at
}

func failed(err api.Errno) api.Reply { return api.Reply{Err: err} }

// put: a new thing, or one that is there, at a free place.
func (m *plainTree) put(at plainSpot, thing int) {
	m.entries = append(m.entries, plainEntry{at.folder, at.name, thing})
}

func (m *plainTree) made(x plainThing) int {
	m.things = append(m.things, x)
	return len(m.things) - 1
}

func (m *plainTree) drop(at plainSpot) {
	k := m.entry(at.folder, at.name)
	m.entries = slices.Delete(m.entries, k, k+1)
}

func (m *plainTree) do(c api.Call) api.Reply {
	switch c.Op {
	case api.Open:
		return m.open(c)
	case api.Close, api.Read, api.WriteTo, api.Seek, api.Fsync:
		return m.slot(c)
	case api.Stat, api.Lstat, api.Readlink, api.Readdir:
		return m.tell(c)
	case api.Mkdir, api.Rmdir, api.Unlink:
		return m.byPath(c)
	case api.Link, api.Linkto:
		return m.link(c)
	case api.Rename:
		return m.rename(c)
	case api.Truncate, api.Punch, api.Reserve:
		return m.content(c)
	case api.Setattr, api.Getattr, api.Delattr, api.Attrs:
		return m.attributes(c)
	case api.Sync:
		return api.Reply{}
	}
	return failed(api.ErrArg)
}

func (m *plainTree) open(c api.Call) api.Reply {
	read, write, create, excl, trunc, appends := c.Flags&1 != 0, c.Flags&2 != 0, c.Flags&4 != 0, c.Flags&8 != 0, c.Flags&16 != 0, c.Flags&32 != 0
	if c.Flags < 0 || c.Flags >= 64 || !read && !write || (trunc || appends) && !write || excl && !create {
		return failed(api.ErrArg)
	}
	fd := slices.IndexFunc(m.slots[:], func(s plainSlot) bool { return !s.open })
	if fd < 0 {
		return failed(api.ErrMany)
	}
	at := m.walk(c.Path, !excl)
	switch {
	case at.err != api.OK:
		return failed(at.err)
	case at.free() && !create:
		return failed(api.ErrNone)
	case at.free() && at.dir:
		return failed(api.ErrDir)
	case at.free():
		at.thing = m.made(plainThing{kind: api.File})
		m.put(at, at.thing)
	case excl:
		return failed(api.ErrExist)
	case m.kind(at.thing) == api.Folder:
		return failed(api.ErrDir)
	case trunc:
		m.things[at.thing].content = nil
	}
	m.slots[fd] = plainSlot{open: true, thing: at.thing, flags: c.Flags}
	return api.Reply{N: fd}
}

func (m *plainTree) slot(c api.Call) api.Reply {
	if c.Fd < 0 || c.Fd >= 8 || !m.slots[c.Fd].open {
		return failed(api.ErrFd)
	}
	s := &m.slots[c.Fd]
	x := &m.things[s.thing]
	switch c.Op {
	case api.Close:
		*s = plainSlot{}
	case api.Read:
		if s.flags&1 == 0 {
			return failed(api.ErrFd)
		}
		if c.N < 0 {
			return failed(api.ErrArg)
		}
		var data []byte
		for len(data) < c.N && s.offset < len(x.content) {
			data = append(data, x.content[s.offset])
			s.offset++
		}
		return api.Reply{N: len(data), Data: string(data)}
	case api.WriteTo:
		return m.write(s, x, c.Data)
	case api.Seek:
		return s.seek(c.N, c.M, len(x.content))
	}
	return api.Reply{}
}

func (m *plainTree) write(s *plainSlot, x *plainThing, data string) api.Reply {
	if s.flags&2 == 0 {
		return failed(api.ErrFd)
	}
	if data == "" {
		return api.Reply{}
	}
	offset := s.offset
	if s.flags&32 != 0 {
		offset = len(x.content)
	}
	n := min(len(data), 512, 65536-offset)
	if n == 0 {
		return failed(api.ErrBig)
	}
	if more := offset + n - len(x.content); more > 0 {
		x.content = append(x.content, make([]byte, more)...)
	}
	copy(x.content[offset:], data[:n])
	s.offset = offset + n
	return api.Reply{N: n}
}

func (s *plainSlot) seek(n, from, size int) api.Reply {
	if from < 0 || from > 2 {
		return failed(api.ErrArg)
	}
	offset := []int{0, s.offset, size}[from]
	if n < -65536 || n > 65536 || offset+n < 0 || offset+n > 65536 {
		return failed(api.ErrArg)
	}
	s.offset = offset + n
	return api.Reply{N: s.offset}
}

func (m *plainTree) tell(c api.Call) api.Reply {
	at := m.by(c.Path, c.Op == api.Stat || c.Op == api.Readdir)
	if at.err != api.OK {
		return failed(at.err)
	}
	switch {
	case c.Op == api.Readlink && m.kind(at.thing) != api.Symlink:
		return failed(api.ErrArg)
	case c.Op == api.Readlink:
		return api.Reply{Data: m.things[at.thing].target}
	case c.Op == api.Readdir && m.kind(at.thing) != api.Folder:
		return failed(api.ErrNotDir)
	case c.Op == api.Readdir:
		return api.Reply{Names: m.names(at.thing)}
	}
	return api.Reply{Status: m.status(at.thing)}
}

// byPath: Mkdir, Rmdir, Unlink.
func (m *plainTree) byPath(c api.Call) api.Reply {
	at := m.walk(c.Path, false)
	switch {
	case at.err != api.OK:
		return failed(at.err)
	case c.Op == api.Mkdir && !at.free():
		return failed(api.ErrExist)
	case c.Op == api.Mkdir && m.links(at.folder) == 100:
		return failed(api.ErrMany)
	case c.Op == api.Mkdir:
		m.put(at, m.made(plainThing{kind: api.Folder}))
		return api.Reply{}
	case at.free():
		return failed(api.ErrNone)
	case c.Op == api.Unlink && m.kind(at.thing) == api.Folder:
		return failed(api.ErrDir)
	case c.Op == api.Rmdir && m.kind(at.thing) != api.Folder:
		return failed(api.ErrNotDir)
	case c.Op == api.Rmdir && at.folder < 0:
		return failed(api.ErrArg)
	case c.Op == api.Rmdir && len(m.names(at.thing)) > 0:
		return failed(api.ErrFilled)
	}
	m.drop(at)
	return api.Reply{}
}

// link: Link, Linkto.
func (m *plainTree) link(c api.Call) api.Reply {
	p, thing := c.Other, -1
	if c.Op == api.Link {
		at := m.by(c.Path, false)
		switch {
		case at.err != api.OK:
			return failed(at.err)
		case m.kind(at.thing) == api.Folder:
			return failed(api.ErrDir)
		case m.links(at.thing) == 100:
			return failed(api.ErrMany)
		}
		thing = at.thing
	} else {
		if c.Data == "" {
			return failed(api.ErrArg)
		}
		if _, _, err := plainSplit("/" + c.Data); err != api.OK {
			return failed(err)
		}
		p = c.Path
	}
	to := m.walk(p, false)
	switch {
	case to.err != api.OK:
		return failed(to.err)
	case !to.free():
		return failed(api.ErrExist)
	case to.dir:
		return failed(api.ErrNone)
	}
	if c.Op == api.Linkto {
		thing = m.made(plainThing{kind: api.Symlink, target: c.Data})
	}
	m.put(to, thing)
	return api.Reply{}
}

func (m *plainTree) rename(c api.Call) api.Reply {
	from := m.by(c.Path, false)
	if from.err != api.OK {
		return failed(from.err)
	}
	if from.folder < 0 {
		return failed(api.ErrArg)
	}
	to := m.walk(c.Other, false)
	if to.err != api.OK {
		return failed(to.err)
	}
	if to.folder < 0 {
		return failed(api.ErrArg)
	}
	if from.thing == to.thing {
		return api.Reply{}
	}
	folder := m.kind(from.thing) == api.Folder
	for above := to.folder; folder; above = m.parent(above) {
		if above == from.thing {
			return failed(api.ErrArg)
		}
		if above == 0 {
			break
		}
	}
	switch {
	case !to.free() && folder && m.kind(to.thing) != api.Folder:
		return failed(api.ErrNotDir)
	case !to.free() && folder && len(m.names(to.thing)) > 0:
		return failed(api.ErrFilled)
	case !to.free() && !folder && m.kind(to.thing) == api.Folder:
		return failed(api.ErrDir)
	case to.free() && to.dir && !folder:
		return failed(api.ErrNotDir)
	case to.free() && folder && to.folder != from.folder && m.links(to.folder) == 100:
		return failed(api.ErrMany)
	}
	if !to.free() {
		m.drop(to)
	}
	m.drop(from)
	m.put(to, from.thing)
	return api.Reply{}
}

// content: Truncate, Punch, Reserve.
func (m *plainTree) content(c api.Call) api.Reply {
	switch {
	case c.N < 0 || c.M < 0 && c.Op != api.Truncate:
		return failed(api.ErrArg)
	case c.N > 65536 && c.Op != api.Punch:
		return failed(api.ErrBig)
	case c.Op == api.Reserve && (c.M > 65536 || c.N+c.M > 65536):
		return failed(api.ErrBig)
	}
	at := m.by(c.Path, true)
	if at.err != api.OK {
		return failed(at.err)
	}
	if m.kind(at.thing) == api.Folder {
		return failed(api.ErrDir)
	}
	x := &m.things[at.thing]
	switch c.Op {
	case api.Truncate:
		x.content = append(x.content, make([]byte, max(c.N-len(x.content), 0))...)[:c.N:c.N]
	case api.Punch:
		for k := range x.content {
			if k >= c.N && k-c.N < c.M {
				x.content[k] = 0
			}
		}
	}
	return api.Reply{}
}

// attributes: Setattr, Getattr, Delattr, Attrs.
func (m *plainTree) attributes(c api.Call) api.Reply {
	at := m.by(c.Path, true)
	if at.err != api.OK {
		return failed(at.err)
	}
	x := &m.things[at.thing]
	k := slices.IndexFunc(x.attrs, func(p api.Pair) bool { return p.Name == c.Other })
	switch {
	case c.Op == api.Attrs:
		var names []string
		for _, p := range x.attrs {
			names = append(names, p.Name)
		}
		return api.Reply{Names: names}
	case c.Op == api.Setattr:
		return x.setattr(k, api.Pair{Name: c.Other, Value: c.Data})
	case k < 0:
		return failed(api.ErrAttr)
	case c.Op == api.Getattr:
		return api.Reply{Data: x.attrs[k].Value}
	}
	x.attrs = slices.Delete(x.attrs, k, k+1)
	return api.Reply{}
}

// setattr: in place of the k-th attribute; below 0: beside the others.
func (x *plainThing) setattr(k int, p api.Pair) api.Reply {
	if len(p.Name) < 1 || len(p.Name) > 16 || len(p.Value) > 64 {
		return failed(api.ErrArg)
	}
	l := slices.Clone(x.attrs)
	if k >= 0 {
		l[k] = p
	} else {
		l = append(l, p)
	}
	slices.SortFunc(l, func(a, b api.Pair) int { return cmp.Compare(a.Name, b.Name) })
	size := 0
	for _, p := range l {
		size += 2 + len(p.Name) + len(p.Value)
	}
	if size > 250 {
		return failed(api.ErrAttr)
	}
	x.attrs = l
	return api.Reply{}
}

// shut: all slots are free.
func (m *plainTree) shut() { m.slots = [8]plainSlot{} }

// plainRuns: a content's runs.
func plainRuns(content []byte) []api.Run {
	var l []api.Run
	for k := 0; k < len(content); k++ {
		at := k
		for k < len(content) && content[k] != 0 {
			k++
		}
		if k > at {
			l = append(l, api.Run{At: at, Data: string(content[at:k])})
		}
	}
	return l
}

func (m *plainTree) dump() []api.Entry {
	var l []api.Entry
	var things []int // of the entries in l
	var tell func(path string, thing int)
	tell = func(path string, thing int) {
		s, x := m.status(thing), m.things[thing]
		things = append(things, thing)
		l = append(l, api.Entry{Path: path, Kind: s.Kind, Links: s.Links, Size: s.Size, Runs: plainRuns(x.content), Target: x.target, Attrs: slices.Clone(x.attrs), Same: slices.Index(things, thing)})
		for _, name := range m.names(thing) {
			tell(strings.TrimSuffix(path, "/")+"/"+name, m.entries[m.entry(thing, name)].thing)
		}
	}
	tell("/", 0)
	return l
}
