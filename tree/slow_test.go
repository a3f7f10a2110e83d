package tree_test

import (
	"bytes"
	"math/rand"
	"slices"
	"sort"
	"strings"
	"unicode/utf8"

	"hawser/api"
)

// The same answers by other means than the program's: with maps, with paths taken apart at each '/', and with lists that are sorted.

// rep is s, n times.
func rep(s string, n int) string { return strings.Repeat(s, n) }

// slowPath says what a path is.
func slowPath(p string) bool {
	names := strings.Split(p, "/")
	for _, n := range names {
		if n == "" || n == "." || n == ".." || len(n) > 64 || !utf8.ValidString(n) || strings.IndexByte(n, 0) >= 0 {
			return false
		}
	}
	return len(names) <= 16 && len(p) <= 400
}

// slowAhead says whether p stands ahead of q in the order of paths.
func slowAhead(p, q string) bool {
	return slices.Compare(strings.Split(p, "/"), strings.Split(q, "/")) < 0
}

// slowWithin says whether p is q, or stands below it.
func slowWithin(p, q string) bool { return q == "" || strings.HasPrefix(p+"/", q+"/") }

// slowNode says whether a node is right.
func slowNode(n api.Node) bool {
	file := n.Kind == 1 && len(n.Data) < 65537 && n.Mode >= 0 && n.Mode < 512
	dir := n == api.Node{Path: n.Path, Kind: 2}
	link := n.Kind == 3 && len(n.Data) > 0 && len(n.Data) < 401 && bytes.IndexByte([]byte(n.Data), 0) < 0 && n.Mode == 0
	return file || dir || link
}

// slowDir says whether p is the root, or that of a directory of the list.
func slowDir(t []api.Node, p string) bool {
	return p == "" || slices.Contains(t, api.Node{Path: p, Kind: 2})
}

// slowTree says what a tree is.
func slowTree(t []api.Node) bool {
	kinds := map[string]int{"": 2}
	for _, n := range t[:min(len(t), 1001)] {
		above := strings.TrimSuffix(n.Path[:strings.LastIndex("/"+n.Path, "/")], "/")
		if !slowPath(n.Path) || !slowNode(n) || kinds[above] != 2 || kinds[n.Path] != 0 {
			return false
		}
		kinds[n.Path] = n.Kind
	}
	return len(t) <= 1000 && same(t, slowSorted(t))
}

// slowSorted is the list in the order of paths.
func slowSorted(t []api.Node) []api.Node {
	sorted := slices.Clone(t)
	sort.SliceStable(sorted, func(i, j int) bool { return slowAhead(sorted[i].Path, sorted[j].Path) })
	return sorted
}

// slowRight says what a value is.
func slowRight(v []api.Node) bool {
	if len(v) == 0 || len(v) > 1000 {
		return len(v) == 0
	}
	others := v[1:]
	return v[0].Path == "" && slowNode(v[0]) && (len(others) == 0 || v[0].Kind == 2 && slowTree(others))
}

// slowCheck is Check.
func slowCheck(t []api.Node) api.Errno {
	if slowTree(t) {
		return api.OK
	}
	return api.ErrTree
}

// slowGet is Get.
func slowGet(t []api.Node, path string) (api.Node, bool) {
	at := slices.IndexFunc(t, func(n api.Node) bool { return n.Path == path })
	if at < 0 || !slowTree(t) {
		return api.Node{}, false
	}
	return t[at], true
}

// slowAt is At.
func slowAt(t []api.Node, path string) []api.Node {
	if !slowTree(t) {
		return nil
	}
	var v []api.Node
	for _, n := range append([]api.Node{{Kind: 2}}, t...) {
		if path == "" || n.Path != "" && slowWithin(n.Path, path) {
			v = append(v, api.Node{Path: strings.Join(strings.Split(n.Path, "/")[len(slowNames(path)):], "/"), Kind: n.Kind, Data: n.Data, Mode: n.Mode})
		}
	}
	return v
}

// slowNames is what stands between the '/' of a path; the root has none.
func slowNames(path string) []string {
	if path == "" {
		return nil
	}
	return strings.Split(path, "/")
}

// slowPut is Put.
func slowPut(t []api.Node, path string, v []api.Node) ([]api.Node, api.Errno) {
	if !slowTree(t) || !slowRight(v) {
		return nil, api.ErrTree
	}
	if !slowPath(path) {
		return nil, api.ErrPath
	}
	names := slowNames(path)
	if len(v) > 0 && !slowDir(t, strings.Join(names[:len(names)-1], "/")) {
		return nil, api.ErrParent
	}
	var u []api.Node
	for _, n := range v {
		n.Path = strings.Join(append(slices.Clone(names), slowNames(n.Path)...), "/")
		if !slowPath(n.Path) {
			return nil, api.ErrPath
		}
		u = append(u, n)
	}
	for _, n := range t {
		if !slowWithin(n.Path, path) {
			u = append(u, n)
		}
	}
	if len(u) > 1000 {
		return nil, api.ErrMore
	}
	return slowSorted(u), api.OK
}

// slowNamesIn is Names.
func slowNamesIn(t []api.Node, dir string) []string {
	var all []string
	for _, n := range slowAt(t, dir) {
		if names := slowNames(n.Path); len(names) == 1 {
			all = append(all, names[0])
		}
	}
	slices.Sort(all)
	return all
}

// slowDiffer is Differ.
func slowDiffer(a, b []api.Node) []string {
	if !slowTree(a) || !slowTree(b) {
		return nil
	}
	count := map[api.Node]int{}
	for _, n := range slices.Concat(a, b) {
		count[n]++
	}
	var paths []string
	for n, times := range count {
		if times == 1 {
			paths = append(paths, n.Path)
		}
	}
	sort.Slice(paths, func(i, j int) bool { return slowAhead(paths[i], paths[j]) })
	return slices.Compact(paths)
}

// anyTree is a tree of at most so many nodes: a few names, all kinds, down to any depth that the names allow.
func anyTree(dice *rand.Rand, most int) []api.Node {
	var t []api.Node
	dirs := []string{""}
	for range dice.Intn(most + 1) {
		path := strings.TrimPrefix(dirs[dice.Intn(len(dirs))]+"/"+anyName(dice), "/")
		if _, there := slowGet(t, path); there || !slowPath(path) {
			continue
		}
		n := anyNode(dice, path)
		if n.Kind == 2 {
			dirs = append(dirs, path)
		}
		t = slowSorted(append(t, n))
	}
	return t
}

// anyName is one of few names, some of which begin with others.
func anyName(dice *rand.Rand) string {
	names := []string{"a", "a.b", "a!", "ab", "b", "é", "...", "B"}
	return names[dice.Intn(len(names))]
}

// anyNode is a right node.
func anyNode(dice *rand.Rand, path string) api.Node {
	nodes := []api.Node{{Path: path, Kind: 1}, {Path: path, Kind: 1, Data: "x", Mode: 420}, {Path: path, Kind: 1, Data: "y", Mode: 420}, {Path: path, Kind: 2}, {Path: path, Kind: 2}, {Path: path, Kind: 2}, {Path: path, Kind: 3, Data: "x"}}
	return nodes[dice.Intn(len(nodes))]
}

// anyValue is a value of at most so many nodes.
func anyValue(dice *rand.Rand, most int) []api.Node {
	first := anyNode(dice, "")
	switch {
	case dice.Intn(6) == 0:
		return nil
	case first.Kind == 2:
		return append([]api.Node{first}, anyTree(dice, most-1)...)
	}
	return []api.Node{first}
}
