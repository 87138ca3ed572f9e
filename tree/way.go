package tree

import (
	"errors"
	"slices"
	"strings"

	"undercroft/api"
	"undercroft/path"
)

const (
	stroke = "/"
	up     = ".."
)

// A spot is what a path leads to: a thing, or a free place.
type spot struct {
	thing  *thing // none at a free place
	folder *thing // with name the thing's place, or the free one; none, if the thing has no place
	name   string
	dir    bool // the path has to be a directory
}

// A way is a path that is being gone.
type way struct {
	root     *thing
	at       spot
	left     []string // the parts that are left
	followed bool     // a Symlink as the last part is gone too
	dir      bool     // it has to be a directory
	targets  int      // how many Symlinks' targets were gone
}

// walk: goes a path. At a free place the error is ErrNone, as it is for most calls; the place stands beside it for those that need one.
func (t *Tree) walk(p string, followed bool) (spot, error) {
	parts, dir, e := path.Split(p)
	if e != api.OK {
		return spot{}, fault{p, e}
	}
	w := way{root: t.top(), at: spot{thing: t.top()}, left: parts, followed: followed, dir: dir}
	for len(w.left) > 0 {
		if e := w.step(); e != api.OK {
			return spot{}, fault{p, e}
		}
	}
	w.at.dir = w.dir
	if w.at.thing == nil {
		return w.at, fault{p, api.ErrNone}
	}
	if w.dir && !w.at.thing.isFolder() {
		return spot{}, fault{p, api.ErrNotDir}
	}
	return w.at, nil
}

// step: goes the next part.
func (w *way) step() api.Errno {
	here, part := w.at.thing, w.left[0]
	w.left = w.left[1:]
	last := len(w.left) == 0
	if !here.isFolder() {
		return api.ErrNotDir
	}
	if part == up {
		w.at = spot{thing: here.parent}
		return api.OK
	}
	x, there := here.entries[part]
	if !there && !last {
		return api.ErrNone
	}
	if there && x.kind == api.Symlink && (!last || w.followed || w.dir) {
		return w.turn(x.target)
	}
	w.at = spot{thing: x, folder: here, name: part}
	return api.OK
}

// turn: goes a Symlink's target in its place. A target without parts that doesn't begin with a stroke is no step: the Folder that was reached keeps its place then.
func (w *way) turn(target string) api.Errno {
	if w.targets == api.MaxLoops {
		return api.ErrLoop
	}
	w.targets++
	parts, dir, _ := path.Split(stroke + target) // OK, or the Symlink wouldn't have been made
	if len(w.left) == 0 {
		w.dir = w.dir || dir
	}
	w.left = slices.Concat(parts, w.left)
	if strings.HasPrefix(target, stroke) {
		w.at = spot{thing: w.root}
	}
	return api.OK
}

// isFree: whether the path leads to a free place, err being what walk answered beside at.
func (at spot) isFree(err error) bool {
	return errors.Is(err, api.ErrNone) && at.folder != nil
}

// free: the free place to which a path leads, where something is to be made; ErrExist at a thing.
func (t *Tree) free(p string) (spot, error) {
	at, err := t.walk(p, false)
	switch {
	case at.isFree(err):
		return at, nil
	case err != nil:
		return spot{}, err
	}
	return spot{}, fault{p, api.ErrExist}
}

// freeLeaf: a free place for what is no Folder.
func (t *Tree) freeLeaf(p string) (spot, error) {
	at, err := t.free(p)
	if err == nil && at.dir {
		return spot{}, fault{p, api.ErrNone}
	}
	return at, err
}

// file: the content to which a path leads, followed.
func (t *Tree) file(p string) (*thing, error) {
	at, err := t.walk(p, true)
	if err != nil {
		return nil, err
	}
	if at.thing.isFolder() {
		return nil, fault{p, api.ErrDir}
	}
	return at.thing, nil
}
