package tree

import (
	"undercroft/api"
	"undercroft/attr"
	"undercroft/path"
)

// ask: the calls by Path that change nothing.
func (t *Tree) ask(c api.Call) (api.Reply, error) {
	at, err := t.walk(c.Path, c.Op != api.Lstat && c.Op != api.Readlink)
	if err != nil {
		return api.Reply{}, err
	}
	x := at.thing
	switch c.Op {
	case api.Readlink:
		if x.kind != api.Symlink {
			return api.Reply{}, fault{c.Path, api.ErrArg}
		}
		return api.Reply{Data: x.target}, nil
	case api.Readdir:
		if !x.isFolder() {
			return api.Reply{}, fault{c.Path, api.ErrNotDir}
		}
		return api.Reply{Names: x.names()}, nil
	case api.Getattr:
		value, e := attr.Get(x.attrs, c.Other)
		return api.Reply{Data: value}, wrapped(c.Other, e)
	case api.Attrs:
		return api.Reply{Names: x.attrNames()}, nil
	}
	return api.Reply{Status: x.status()}, nil
}

// mkdir: Mkdir.
func (t *Tree) mkdir(p string) error {
	at, err := t.free(p)
	if err != nil {
		return err
	}
	if at.folder.links >= api.MaxLinks {
		return fault{p, api.ErrMany}
	}
	at.folder.enter(at.name, newFolder())
	return nil
}

// rmdir: Rmdir.
func (t *Tree) rmdir(p string) error {
	at, err := t.walk(p, false)
	switch {
	case err != nil:
		return err
	case !at.thing.isFolder():
		return fault{p, api.ErrNotDir}
	case at.folder == nil:
		return fault{p, api.ErrArg}
	case len(at.thing.entries) > 0:
		return fault{p, api.ErrFilled}
	}
	at.folder.leave(at.name)
	return nil
}

// unlink: Unlink.
func (t *Tree) unlink(p string) error {
	at, err := t.walk(p, false)
	if err != nil {
		return err
	}
	if at.thing.isFolder() {
		return fault{p, api.ErrDir}
	}
	at.folder.leave(at.name)
	return nil
}

// link: Link.
func (t *Tree) link(p, other string) error {
	at, err := t.walk(p, false)
	switch {
	case err != nil:
		return err
	case at.thing.isFolder():
		return fault{p, api.ErrDir}
	case at.thing.links >= api.MaxLinks:
		return fault{p, api.ErrMany}
	}
	to, err := t.freeLeaf(other)
	if err != nil {
		return err
	}
	to.folder.enter(to.name, at.thing)
	return nil
}

// linkto: Linkto.
func (t *Tree) linkto(target, p string) error {
	if target == "" {
		return fault{p, api.ErrArg}
	}
	if _, _, e := path.Split(stroke + target); e != api.OK {
		return fault{target, e}
	}
	at, err := t.freeLeaf(p)
	if err != nil {
		return err
	}
	at.folder.enter(at.name, newSymlink(target))
	return nil
}

// rename: Rename.
func (t *Tree) rename(p, other string) error {
	from, err := t.walk(p, false)
	if err != nil {
		return err
	}
	if from.folder == nil {
		return fault{p, api.ErrArg}
	}
	to, err := t.walk(other, false)
	if err != nil && !to.isFree(err) {
		return err
	}
	if to.folder == nil {
		return fault{other, api.ErrArg}
	}
	if from.thing == to.thing {
		return nil
	}
	if e := from.mayMove(to); e != api.OK {
		return fault{other, e}
	}
	from.folder.leave(from.name)
	if to.thing != nil {
		to.folder.leave(to.name)
	}
	to.folder.enter(to.name, from.thing)
	return nil
}

// mayMove: whether the thing may stand at the other spot, which isn't its own.
func (at spot) mayMove(to spot) api.Errno {
	folder := at.thing.isFolder()
	if folder && to.folder.within(at.thing) {
		return api.ErrArg
	}
	if to.thing == nil {
		switch {
		case to.dir && !folder:
			return api.ErrNotDir
		case folder && to.folder != at.folder && to.folder.links >= api.MaxLinks:
			return api.ErrMany
		}
		return api.OK
	}
	switch {
	case folder && !to.thing.isFolder():
		return api.ErrNotDir
	case folder && len(to.thing.entries) > 0:
		return api.ErrFilled
	case !folder && to.thing.isFolder():
		return api.ErrDir
	}
	return api.OK
}

// truncate: Truncate.
func (t *Tree) truncate(p string, n int) error {
	if n < 0 {
		return fault{p, api.ErrArg}
	}
	if n > api.MaxFile {
		return fault{p, api.ErrBig}
	}
	x, err := t.file(p)
	if err != nil {
		return err
	}
	x.resize(n)
	return nil
}

// punch: Punch.
func (t *Tree) punch(p string, from, n int) error {
	if from < 0 || n < 0 {
		return fault{p, api.ErrArg}
	}
	x, err := t.file(p)
	if err != nil {
		return err
	}
	from = min(from, x.size)
	x.zero(from, from+min(n, x.size-from))
	return nil
}

// reserve: Reserve, which has nothing to do where there is no device.
func (t *Tree) reserve(p string, from, n int) error {
	if from < 0 || n < 0 {
		return fault{p, api.ErrArg}
	}
	if from > api.MaxFile || n > api.MaxFile-from { // their sum may be too great for an int
		return fault{p, api.ErrBig}
	}
	_, err := t.file(p)
	return err
}

// setattr: Setattr.
func (t *Tree) setattr(p string, a api.Pair) error {
	at, err := t.walk(p, true)
	if err != nil {
		return err
	}
	return at.thing.takeAttrs(attr.Set(at.thing.attrs, a))
}

// delattr: Delattr.
func (t *Tree) delattr(p, name string) error {
	at, err := t.walk(p, true)
	if err != nil {
		return err
	}
	return at.thing.takeAttrs(attr.Drop(at.thing.attrs, name))
}

// takeAttrs: l is the thing's attributes from now on, but where an error stands beside it.
func (x *thing) takeAttrs(l []api.Pair, e api.Errno) error {
	if e == api.OK {
		x.attrs = l
	}
	return wrapped("attributes", e)
}

// attrNames: the attributes' names, rising.
func (x *thing) attrNames() []string {
	var names []string
	for _, a := range x.attrs {
		names = append(names, a.Name)
	}
	return names
}
