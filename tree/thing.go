package tree

import (
	"maps"
	"slices"

	"undercroft/api"
	"undercroft/sparse"
)

// A thing is a File, a Folder or a Symlink.
type thing struct {
	kind    int
	links   int
	size    int               // a File's
	runs    []api.Run         // a File's content
	target  string            // a Symlink's
	entries map[string]*thing // a Folder's, by their names
	parent  *thing            // a Folder's; the root's is the root
	attrs   []api.Pair
}

// A thing's Links without any entry that it is, or that it has.
const (
	ownLinks       = 0
	ownFolderLinks = 2
)

func newFile() *thing { return &thing{kind: api.File, links: ownLinks} }

func newSymlink(target string) *thing {
	return &thing{kind: api.Symlink, links: ownLinks, target: target}
}

func newFolder() *thing {
	return &thing{kind: api.Folder, links: ownFolderLinks, entries: map[string]*thing{}}
}

func newRoot() *thing {
	root := newFolder()
	root.parent = root
	return root
}

func (x *thing) isFolder() bool { return x.kind == api.Folder }

// enter: x becomes an entry of the Folder f, which has none of that name.
func (f *thing) enter(name string, x *thing) {
	f.entries[name] = x
	if x.isFolder() {
		x.parent = f
		f.links++
	} else {
		x.links++
	}
}

// leave: the entry of that name goes from the Folder f.
func (f *thing) leave(name string) {
	x := f.entries[name]
	delete(f.entries, name)
	if x.isFolder() {
		f.links--
	} else {
		x.links--
	}
}

// within: whether the Folder f is x, or lies below it.
func (f *thing) within(x *thing) bool {
	for f != x && f != f.parent {
		f = f.parent
	}
	return f == x
}

// names: of a Folder's entries, rising; none of another thing.
func (x *thing) names() []string { return slices.Sorted(maps.Keys(x.entries)) }

// status: what is told of a thing.
func (x *thing) status() api.Status {
	s := api.Status{Kind: x.kind, Links: x.links, Size: x.size}
	switch x.kind {
	case api.Folder:
		s.Size = len(x.entries)
	case api.Symlink:
		s.Size = len(x.target)
	}
	return s
}

// told: a thing's entry in a Dump, but for where it stands.
func (x *thing) told() api.Entry {
	s := x.status()
	return api.Entry{
		Kind:   s.Kind,
		Links:  s.Links,
		Size:   s.Size,
		Runs:   slices.Clone(x.runs),
		Target: x.target,
		Attrs:  slices.Clone(x.attrs),
	}
}

// The content of a File is a right list of runs, and the places that are asked for are those that a File may have: so layer 15 answers no error to any of these.

// bytes: n bytes from at on.
func (x *thing) bytes(at, n int) string {
	data, _ := sparse.Bytes(x.runs, at, n)
	return data
}

// put: data stands from at on.
func (x *thing) put(at int, data string) {
	x.runs, _ = sparse.Put(x.runs, at, data)
	x.size = max(x.size, at+len(data))
}

// zero: the bytes from from to to - 1 are 0.
func (x *thing) zero(from, to int) {
	x.runs, _ = sparse.Zero(x.runs, from, to)
}

// resize: the File has n bytes, those that are new being 0.
func (x *thing) resize(n int) {
	x.zero(n, api.MaxFile)
	x.size = n
}
