package recon_test

import (
	"slices"
	"strings"

	"hawser/api"
)

// The same answers by other means than the program's: no tree is gone down; each path that stands anywhere is asked by itself, by all paths above it.

// three are what is told of.
type three struct{ o, a, b []api.Node }

// slowAt is the value at a path: its nodes by what is behind the path, the place itself by "".
func slowAt(t []api.Node, path string) map[string]api.Node {
	v := map[string]api.Node{}
	for _, n := range t {
		if n.Path == path || strings.HasPrefix(n.Path, path+"/") {
			behind := n.Path[len(path):]
			n.Path = ""
			v[behind] = n
		} else if path == "" {
			behind := "/" + n.Path
			n.Path = ""
			v[behind] = n
		}
	}
	if path == "" {
		v[""] = api.Node{Kind: 2}
	}
	return v
}

// slowSame tells whether two values are the same.
func slowSame(v, w map[string]api.Node) bool {
	for behind, n := range v {
		m, there := w[behind]
		if !there || m != n {
			return false
		}
	}
	return len(v) == len(w)
}

// slowSplit tells whether what A and B have at the path is two directories that aren't the same, so that their names are looked at.
func slowSplit(x three, path string) bool {
	a, b := slowAt(x.a, path), slowAt(x.b, path)
	return a[""].Kind == 2 && b[""].Kind == 2 && !slowSame(a, b)
}

// slowAbove is the root and each path above a path, from the root on.
func slowAbove(path string) []string {
	var above []string
	for i := range path {
		if i == 0 {
			above = append(above, "")
		}
		if path[i] == '/' {
			above = append(above, path[:i])
		}
	}
	return above
}

// slowPaths are the root and all paths that stand in one of the three, in their order.
func slowPaths(x three) []string {
	paths := []string{""}
	for _, n := range slices.Concat(x.o, x.a, x.b) {
		paths = append(paths, n.Path)
	}
	slices.SortFunc(paths, func(p, q string) int {
		return slices.Compare(strings.Split(p, "/"), strings.Split(q, "/"))
	})
	return slices.Compact(paths)
}

// slowLooked tells whether a path is looked at: at each one above it the names are.
func slowLooked(x three, path string) bool {
	for _, above := range slowAbove(path) {
		if !slowSplit(x, above) {
			return false
		}
	}
	return true
}

// slowItems is Items, of trees.
func slowItems(x three) []api.Item {
	var items []api.Item
	for _, p := range slowPaths(x) {
		if what := slowWhat(x, p); slowLooked(x, p) && !slowSplit(x, p) && what != 0 {
			items = append(items, api.Item{Path: p, What: what})
		}
	}
	return items
}

// slowWhat is what an item at the path would tell, or 0 if all three are the same.
func slowWhat(x three, path string) int {
	o, a, b := slowAt(x.o, path), slowAt(x.a, path), slowAt(x.b, path)
	alike := []bool{slowSame(a, b), slowSame(o, b), slowSame(o, a)}
	switch slices.Index(alike, true) {
	case 0:
		if alike[1] {
			return 0
		}
		return 1
	case 1:
		return 2
	case 2:
		return 3
	}
	return 4
}

// slowAgree is Agree, of trees: each path has what the topmost place at or above it that isn't split tells.
func slowAgree(x three) []api.Node {
	var agreed []api.Node
	for _, p := range slowPaths(x)[1:] {
		if n, there := slowAgreedAt(x, p); there {
			agreed = append(agreed, n)
		}
	}
	return agreed
}

// slowAgreedAt is the node that is agreed on at the path, if there is one.
func slowAgreedAt(x three, path string) (api.Node, bool) {
	for _, q := range append(slowAbove(path), path) {
		if slowSplit(x, q) {
			continue
		}
		from := x.o
		if slowSame(slowAt(x.a, q), slowAt(x.b, q)) {
			from = x.a
		}
		at := slices.IndexFunc(from, func(n api.Node) bool { return n.Path == path })
		if at < 0 {
			return api.Node{}, false
		}
		return from[at], true
	}
	return api.Node{Path: path, Kind: 2}, true
}
