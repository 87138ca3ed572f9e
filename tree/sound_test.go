package tree

import (
	"slices"
	"strings"
	"testing"

	"undercroft/api"
)

// What holds of every tree (P16.2), asked of what Dump tells alone.

// partsOf: of a path that Dump tells.
func partsOf(p string) []string {
	if p == "/" {
		return nil
	}
	return strings.Split(p[1:], "/")
}

// wantSound: these are the things of a tree, in the order in which Dump tells them.
func wantSound(t *testing.T, l []api.Entry) {
	t.Helper()
	if len(l) == 0 || l[0].Path != "/" || l[0].Kind != api.Folder {
		t.Fatalf("a tree begins with its root, not with %+v", l[:min(1, len(l))])
	}
	at := map[string]int{} // where a path stands
	entries, folders, same := make([]int, len(l)), make([]int, len(l)), make([]int, len(l))
	for k, e := range l {
		at[e.Path] = k
		if parts := partsOf(e.Path); k > 0 {
			above, there := at["/"+strings.Join(parts[:len(parts)-1], "/")]
			if !there || l[above].Kind != api.Folder || slices.Compare(partsOf(l[k-1].Path), parts) >= 0 {
				t.Fatalf("%q stands behind %q", e.Path, l[k-1].Path)
			}
			entries[above]++
			if e.Kind == api.Folder {
				folders[above]++
			}
		}
		if e.Same < 0 || e.Same > k || l[e.Same].Same != e.Same {
			t.Fatalf("%+v stands at %d", e, k)
		}
		same[e.Same]++
	}
	for k, e := range l {
		wantSoundEntry(t, e)
		first := l[e.Same]
		first.Path = e.Path
		if !sameEntry(e, first) {
			t.Fatalf("%+v isn't the thing of %+v", e, l[e.Same])
		}
		links, size := same[e.Same], e.Size
		if e.Kind == api.Folder {
			links, size = 2+folders[k], entries[k]
			if e.Same != k {
				t.Fatalf("%+v is an entry again", e)
			}
		}
		if e.Links != links || e.Size != size {
			t.Fatalf("%+v: Links and Size should be %d and %d", e, links, size)
		}
	}
}

// wantSoundEntry: what holds of an entry by itself.
func wantSoundEntry(t *testing.T, e api.Entry) {
	t.Helper()
	for _, name := range partsOf(e.Path) {
		if name == "" || name == "." || name == ".." || len(name) > 32 || strings.Contains(name, "\x00") {
			t.Fatalf("%+v has a name that may not be", e)
		}
	}
	content := make([]byte, e.Size)
	for _, run := range e.Runs {
		if run.At < 0 || run.At+len(run.Data) > e.Size {
			t.Fatalf("%+v has bytes beyond its Size", e)
		}
		copy(content[run.At:], run.Data)
	}
	if e.Size < 0 || e.Size > 65536 || e.Links > 100 || !slices.Equal(plainRuns(content), e.Runs) {
		t.Fatalf("%+v has a content that may not be", e)
	}
	switch {
	case e.Kind != api.File && len(e.Runs) > 0, e.Kind != api.Symlink && e.Target != "":
		t.Fatalf("%+v holds what is another kind's", e)
	case e.Kind == api.Symlink && (e.Target == "" || e.Size != len(e.Target)):
		t.Fatalf("%+v has a target that may not be", e)
	case e.Kind != api.File && e.Kind != api.Folder && e.Kind != api.Symlink:
		t.Fatalf("%+v is no thing", e)
	}
	size := 0
	for k, p := range e.Attrs {
		size += 2 + len(p.Name) + len(p.Value)
		if p.Name == "" || len(p.Name) > 16 || len(p.Value) > 64 || size > 250 || k > 0 && e.Attrs[k-1].Name >= p.Name {
			t.Fatalf("%+v has attributes that may not be", e)
		}
	}
}
