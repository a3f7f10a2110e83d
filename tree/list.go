package tree

import (
	"slices"
	"sort"

	"hawser/api"
	"hawser/name"
)

// list is the nodes of a tree. Its methods rely on their order, so they are asked of a tree alone, or of a tree's beginning (which is a tree too).
type list []api.Node

// place answers where in the list the path stands, or would stand, and whether it does.
func (l list) place(path string) (int, bool) {
	return slices.BinarySearchFunc(l, path, func(n api.Node, path string) int {
		return name.Order(n.Path, path)
	})
}

// within answers from which place on, and ahead of which, what is within the path stands.
func (l list) within(path string) (int, int) {
	from, _ := l.place(path)
	// What is within a path stands right behind it, so beyond the first that isn't there is no more.
	count := sort.Search(len(l)-from, func(i int) bool {
		return !name.Within(l[from+i].Path, path)
	})
	return from, from + count
}

// hasDir tells whether the path is the root, or that of a directory.
func (l list) hasDir(path string) bool {
	at, found := l.place(path)
	return path == "" || found && l[at].Kind == api.Dir
}

// goesOn tells whether the path may stand behind the list: behind all others in their order, and in a directory.
func (l list) goesOn(path string) bool {
	if len(l) > 0 && name.Order(l[len(l)-1].Path, path) >= 0 {
		return false
	}
	return l.hasDir(name.Parent(path))
}

// change is a tree under change: at a path other nodes are to come.
type change struct {
	list
	path   string
	coming []api.Node // with paths counted from the root
}

// fault answers why the change can't be: the first error, or OK.
func (c change) fault() api.Errno {
	from, to := c.within(c.path)
	switch {
	case len(c.coming) > 0 && !c.hasDir(name.Parent(c.path)):
		return api.ErrParent
	case slices.ContainsFunc(c.coming, hasNoPath):
		return api.ErrPath
	case len(c.list)-(to-from)+len(c.coming) > api.MaxNodes:
		return api.ErrMore
	}
	return api.OK
}

// hasNoPath is asked of a path made of two, which can be too long or too deep.
func hasNoPath(n api.Node) bool { return !name.Path(n.Path) }

// done answers the tree with what was to come in the place of what is within the path.
func (c change) done() []api.Node {
	from, to := c.within(c.path)
	return slices.Concat(c.list[:from], c.coming, c.list[to:])
}
