package disk

import (
	"slices"
	"sort"
	"strings"

	"hawser/api"
	"hawser/name"
)

// inode is what a name leads to.
type inode struct {
	ino, time  int
	kind, mode int
	data       string
	dirty      bool
}

// node answers the inode as a node at a path.
func (i *inode) node(path string) api.Node {
	return api.Node{Path: path, Kind: i.kind, Data: i.data, Mode: i.mode}
}

func (i *inode) stamp() api.Stamp {
	return api.Stamp{Ino: i.ino, Size: len(i.data), Time: i.time}
}

// write gives a file data that aren't synced yet.
func (i *inode) write(data string, mode, time int) {
	i.data, i.mode, i.time, i.dirty = data, mode, time, true
}

// clean leaves, of data that aren't synced, the first so many bytes.
func (i *inode) clean(torn int) {
	if i.dirty {
		i.data = i.data[:min(max(torn, 0), len(i.data))]
	}
	i.dirty = false
}

// entry is a name with its inode; one without an inode tells, in a change, that the name goes.
type entry struct {
	path string
	*inode
}

// names is the names of a disk, in the order of paths.
type names []entry

// place answers where the path stands, or would stand, and whether it does.
func (n names) place(path string) (int, bool) {
	return slices.BinarySearchFunc(n, path, func(e entry, path string) int {
		return name.Order(e.path, path)
	})
}

// at answers the inode of the path, which is nil where nothing is; the root has one that no name leads to.
func (n names) at(path string) *inode {
	if path == "" {
		return &inode{kind: api.Dir}
	}
	at, found := n.place(path)
	if !found {
		return nil
	}
	return n[at].inode
}

// kind answers the kind of what is at the path, None where nothing is.
func (n names) kind(path string) int {
	i := n.at(path)
	if i == nil {
		return api.None
	}
	return i.kind
}

// within answers the names that are within the path; they are a piece of the list itself.
func (n names) within(path string) names {
	from, _ := n.place(path)
	// What is within a path stands right behind it, so beyond the first that isn't there is no more.
	count := sort.Search(len(n)-from, func(i int) bool {
		return !name.Within(n[from+i].path, path)
	})
	return n[from : from+count]
}

// in answers the last names of what stands right in the directory.
func (n names) in(dir string) []string {
	var last []string
	for _, e := range n.within(dir) {
		rest := strings.TrimPrefix(strings.TrimPrefix(e.path, dir), "/")
		if rest != "" && !strings.Contains(rest, "/") {
			last = append(last, rest)
		}
	}
	return last
}

// tree answers the names with their inodes as a tree.
func (n names) tree() []api.Node {
	var t []api.Node
	for _, e := range n {
		t = append(t, e.node(e.path))
	}
	return t
}

// without answers the change by which all goes that is within the path.
func (n names) without(path string) []entry {
	var change []entry
	for _, e := range n.within(path) {
		change = append(change, entry{path: e.path})
	}
	return change
}

// with answers the names behind a change; the list itself is used up.
func (n names) with(change ...entry) names {
	for _, e := range change {
		at, found := n.place(e.path)
		if found {
			n = slices.Delete(n, at, at+1)
		}
		if e.inode != nil {
			n = slices.Insert(n, at, e)
		}
	}
	return n
}
