package tree

import (
	"strings"

	"undercroft/api"
)

// A slot is an open file; the one that has no File is free.
type slot struct {
	file   *thing
	offset int
	flags  int
}

func (s slot) free() bool { return s.file == nil }

// has: whether the file was opened with that flag.
func (s slot) has(flag int) bool { return s.flags&flag != 0 }

// mayFlags: whether Open takes these.
func mayFlags(flags int) bool {
	const all = api.ForRead | api.ForWrite | api.Create | api.Excl | api.Trunc | api.Append
	has := func(some int) bool { return flags&some != 0 }
	if has(^all) { // among them the bit of what is below 0
		return false
	}
	if has(api.Trunc|api.Append) && !has(api.ForWrite) || has(api.Excl) && !has(api.Create) {
		return false
	}
	return has(api.ForRead | api.ForWrite)
}

// freeSlot: the least free slot's number; false: there is none.
func (t *Tree) freeSlot() (int, bool) {
	for fd, s := range t.slots {
		if s.free() {
			return fd, true
		}
	}
	return 0, false
}

// open: Open.
func (t *Tree) open(p string, flags int) (api.Reply, error) {
	if !mayFlags(flags) {
		return api.Reply{}, fault{p, api.ErrArg}
	}
	fd, ok := t.freeSlot()
	if !ok {
		return api.Reply{}, fault{p, api.ErrMany}
	}
	s := slot{flags: flags}
	at, err := t.walk(p, !s.has(api.Excl))
	switch {
	case at.isFree(err):
		s.file, err = at.makeFile(s, p)
	case err == nil:
		s.file, err = at.openFile(s, p)
	}
	if err != nil {
		return api.Reply{}, err
	}
	t.slots[fd] = s
	return api.Reply{N: fd}, nil
}

// makeFile: the File that Open makes at a free place.
func (at spot) makeFile(s slot, p string) (*thing, error) {
	if !s.has(api.Create) {
		return nil, fault{p, api.ErrNone}
	}
	if at.dir {
		return nil, fault{p, api.ErrDir}
	}
	x := newFile()
	at.folder.enter(at.name, x)
	return x, nil
}

// openFile: the File that Open finds.
func (at spot) openFile(s slot, p string) (*thing, error) {
	if s.has(api.Excl) {
		return nil, fault{p, api.ErrExist}
	}
	if at.thing.isFolder() {
		return nil, fault{p, api.ErrDir}
	}
	if s.has(api.Trunc) {
		at.thing.resize(0)
	}
	return at.thing, nil
}

// callSlot: the calls by Fd.
func (t *Tree) callSlot(c api.Call) (api.Reply, error) {
	if c.Fd < 0 || c.Fd >= len(t.slots) || t.slots[c.Fd].free() {
		return api.Reply{}, fault{"no open file", api.ErrFd}
	}
	s := &t.slots[c.Fd]
	switch c.Op {
	case api.Read:
		return s.read(c.N)
	case api.WriteTo:
		return s.write(c.Data)
	case api.Seek:
		return s.seek(c.N, c.M)
	case api.Close:
		*s = slot{}
		fallthrough
	default:
		return api.Reply{}, nil
	}
}

// read: Read.
func (s *slot) read(n int) (api.Reply, error) {
	if !s.has(api.ForRead) {
		return api.Reply{}, fault{"not open for reading", api.ErrFd}
	}
	if n < 0 {
		return api.Reply{}, fault{"bytes to read", api.ErrArg}
	}
	n = min(n, max(s.file.size-s.offset, 0))
	data := s.file.bytes(s.offset, n)
	s.offset += n
	return api.Reply{N: n, Data: data}, nil
}

// write: WriteTo.
func (s *slot) write(data string) (api.Reply, error) {
	if !s.has(api.ForWrite) {
		return api.Reply{}, fault{"not open for writing", api.ErrFd}
	}
	if data == "" {
		return api.Reply{}, nil
	}
	at := s.offset
	if s.has(api.Append) {
		at = s.file.size
	}
	n := min(len(data), api.MaxWrite, api.MaxFile-at)
	if n == 0 {
		return api.Reply{}, fault{"end of the file", api.ErrBig}
	}
	s.file.put(at, strings.Clone(data[:n])) // or all of a long text would be kept for the sake of these bytes
	s.offset = at + n
	return api.Reply{N: n}, nil
}

// seek: Seek.
func (s *slot) seek(n, from int) (api.Reply, error) {
	base := 0
	switch from {
	case 0:
	case 1:
		base = s.offset
	case 2:
		base = s.file.size
	default:
		return api.Reply{}, fault{"where to seek from", api.ErrArg}
	}
	if n < -base || n > api.MaxFile-base { // their sum may be too great for an int
		return api.Reply{}, fault{"where to seek to", api.ErrArg}
	}
	s.offset = base + n
	return api.Reply{N: s.offset}, nil
}
