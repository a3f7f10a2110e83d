package recon

import (
	"slices"
	"strings"

	"hawser/api"
	"hawser/tree"
)

// names are what stands right in each of three values, by last names. What is no directory has none.
type names struct {
	inO, inA, inB map[string][]api.Node
}

// inside answers what stands right in a value's directory: for each last name the value there.
func inside(v []api.Node) map[string][]api.Node {
	values := map[string][]api.Node{}
	for i, n := range v {
		if i > 0 {
			last, _, _ := strings.Cut(strings.TrimPrefix(n.Path[len(v[0].Path):], "/"), "/")
			values[last] = append(values[last], n)
		}
	}
	return values
}

// ordered answers the names byte by byte, each once.
func (n names) ordered() []string {
	var all []string
	for _, values := range []map[string][]api.Node{n.inO, n.inA, n.inB} {
		for last := range values {
			all = append(all, last)
		}
	}
	slices.Sort(all)
	return slices.Compact(all)
}

// trees are three trees that are gone down together: what they have at one path. The nodes keep their paths from the root, since what is compared is always at the same path.
type trees struct {
	names
	path    string
	o, a, b []api.Node
}

// atRoot answers the three trees at the root.
func atRoot(o, a, b []api.Node) trees {
	return standing("", tree.At(o, ""), tree.At(a, ""), tree.At(b, ""))
}

// standing answers three trees that have these values at a path.
func standing(path string, o, a, b []api.Node) trees {
	return trees{names: names{inO: inside(o), inA: inside(a), inB: inside(b)}, path: path, o: o, a: a, b: b}
}

// below answers the three trees at a name in the directory.
func (t trees) below(last string) trees {
	path := strings.TrimPrefix(t.path+"/"+last, "/")
	return standing(path, t.inO[last], t.inA[last], t.inB[last])
}

// bothDirs tells whether A and B have directories.
func (t trees) bothDirs() bool { return isDir(t.a) && isDir(t.b) }

// isDir tells whether a value is a directory's.
func isDir(v []api.Node) bool { return len(v) > 0 && v[0].Kind == api.Dir }

// items answers what is found at the path and below.
func (t trees) items() []api.Item {
	switch {
	case tree.Same(t.a, t.b) && tree.Same(t.o, t.a):
		return nil
	case tree.Same(t.a, t.b):
		return t.item(api.Agreed)
	case t.bothDirs():
		var found []api.Item
		for _, last := range t.ordered() {
			found = append(found, t.below(last).items()...)
		}
		return found
	case tree.Same(t.o, t.b):
		return t.item(api.ToB)
	case tree.Same(t.o, t.a):
		return t.item(api.ToA)
	}
	return t.item(api.Clash)
}

// item is the path itself, with what has happened there.
func (t trees) item(what int) []api.Item { return []api.Item{{Path: t.path, What: what}} }

// agreed answers what A and B agree on at the path.
func (t trees) agreed() []api.Node {
	switch {
	case tree.Same(t.a, t.b):
		return t.a
	case t.bothDirs():
		all := []api.Node{t.a[0]}
		for _, last := range t.ordered() {
			all = append(all, t.below(last).agreed()...)
		}
		return all
	}
	return t.o
}
