package tree_test

import (
	"fmt"
	"math"
	"math/rand"
	"slices"
	"strconv"
	"strings"
	"testing"

	"hawser/api"
	"hawser/tree"
)

func dir(path string) api.Node { return api.Node{Path: path, Kind: api.Dir} }
func file(path, data string) api.Node {
	return api.Node{Path: path, Kind: api.File, Data: data, Mode: 420}
}
func link(path, to string) api.Node     { return api.Node{Path: path, Kind: api.Link, Data: to} }
func list(nodes ...api.Node) []api.Node { return nodes }
func same(a, b []api.Node) bool         { return slices.Equal(a, b) }
func isTree(t []api.Node) bool          { return tree.Check(t) == api.OK }
func put(t []api.Node, p string, v ...api.Node) []api.Node {
	u, _ := tree.Put(t, p, v)
	return u
}

// told is the beginning of a list, for messages.
func told(l []api.Node) string {
	var b strings.Builder
	for _, n := range l[:min(len(l), 25)] {
		fmt.Fprintf(&b, "{%.80q %d %.20q %d}", n.Path, n.Kind, n.Data, n.Mode)
	}
	return b.String()
}

// wide is a tree of n files in the root (n up to 9000).
func wide(n int) []api.Node {
	var t []api.Node
	for i := range n {
		t = append(t, file(strconv.Itoa(1000+i), "x"))
	}
	return t
}

// deep is a tree of n directories, each within the one ahead of it, and the path of the last one.
func deep(n int, name string) ([]api.Node, string) {
	var t []api.Node
	path := ""
	for range n {
		path = strings.TrimPrefix(path+"/"+name, "/")
		t = append(t, dir(path))
	}
	return t, path
}

// down are names of 64 bytes, and a last one that makes the path n bytes long (n from 391 to 454).
func down(n int) []api.Node {
	t, path := deep(6, rep("a", 64))
	return append(t, file(path+"/"+rep("b", n-390), "x"))
}

// deepest is deep without its path.
func deepest(n int) []api.Node {
	t, _ := deep(n, "a")
	return t
}

// some is a tree with all kinds, with names that begin with others, and an empty directory.
func some() []api.Node {
	return list(dir("a"), file("a/b", "x"), dir("a/c"), link("a/c/d", "../b"), file("a/c/e", ""), file("a/c.d", "y"), file("a.b", "z"), file("ab", "x"), dir("b"), link("é", "\xff"))
}

// rightLists are trees, at the edges of what may be.
func rightLists() [][]api.Node {
	return [][]api.Node{
		nil, {}, list(file("a", "")), list(dir("a")), list(link("a", "b")), some(),
		list(dir("a"), file("a/b", "x")), list(dir("a"), file("a/z", ""), file("a.b", "")), list(dir("a"), file("a/z", ""), file("a!", "")), list(dir("a"), dir("a/a"), dir("a/a/a"), dir("b"), dir("b/a")),
		list(file("B", ""), file("a", "")), list(file("10", ""), file("9", "")), list(file("a", ""), file("a\xc3\xa9", "")), list(file("...", "")), list(file(".hawser", "")),
		// data and modes
		list(file("a", rep("x", 65536))), list(file("a", "\x00\xff")), list(api.Node{Path: "a", Kind: 1}), list(api.Node{Path: "a", Kind: 1, Mode: 511}),
		list(link("a", rep("x", 400))), list(link("a", "\xff/../\n")), list(link("a", "/")),
		// paths
		deepest(16), down(400), list(file(rep("a", 64), "")), list(file(rep("é", 32), "")),
		// so many
		wide(999), wide(1000), append(wide(984), deepest(16)...),
	}
}

// wrongLists are none.
func wrongLists() [][]api.Node {
	return [][]api.Node{
		// paths
		list(file("", "")), list(dir("")), list(dir(""), file("a", "")), list(dir("/")), list(dir("/a")), list(dir("a/")), list(dir("a"), dir("a/"), dir("a/b")), list(dir("a"), file("a//b", "")), list(dir("a"), file("a/..", "")), list(file(".", "")), list(file("..", "")), list(file("a\x00", "")), list(file("\xff", "")),
		deepest(17), down(401), list(file(rep("a", 65), "")), list(file(rep("a", 1<<20), "")),
		// order, and paths that stand twice
		list(file("b", ""), file("a", "")), list(file("a", ""), file("a", "")), list(dir("a"), dir("a")), list(dir("a"), file("a", "")), list(file("a", ""), dir("a")), list(dir("a"), file("a.b", ""), file("a/z", "")), list(dir("a"), file("a!", ""), file("a/z", "")), list(dir("a"), file("a/b", ""), file("a/b", "")), list(dir("a"), file("a/b", ""), dir("a")), list(file("a", ""), file("B", "")), list(file("9", ""), file("10", "")), list(dir("a"), dir("b"), file("a/x", "")), list(file("a/b", ""), dir("a")),
		// what is above is missing, or no directory
		list(file("a/b", "")), list(dir("a/b"), file("a/b/c", "")), list(dir("a"), file("a/b/c", "")), list(file("a", ""), file("a/b", "")), list(link("a", "b"), file("a/b", "")), list(dir("a"), file("a/b", ""), file("a/b/c", "")), list(dir("a"), link("a/b", "c"), file("a/b/c", "")), list(dir("a"), file("ab/c", "")), list(dir("ab"), file("a/b", "")), list(dir("a"), file("b", ""), file("b/c", "")), list(dir("b"), file("c/a", "")), list(dir("a"), dir("a/b"), file("b/c", "")),
		// kinds
		list(api.Node{Path: "a"}), list(api.Node{Path: "a", Kind: 4}), list(api.Node{Path: "a", Kind: -1}), list(api.Node{Path: "a", Kind: math.MaxInt}), list(api.Node{Path: "a", Kind: math.MinInt, Data: "x"}), list(dir("a"), api.Node{Path: "a/b"}), list(api.Node{}), list(file("a", ""), api.Node{}),
		// data and modes
		list(file("a", rep("x", 65537))), list(api.Node{Path: "a", Kind: 1, Mode: -1}), list(api.Node{Path: "a", Kind: 1, Mode: 512}), list(api.Node{Path: "a", Kind: 1, Mode: math.MaxInt}), list(api.Node{Path: "a", Kind: 1, Mode: math.MinInt}),
		list(api.Node{Path: "a", Kind: 2, Data: "x"}), list(api.Node{Path: "a", Kind: 2, Data: "\x00"}), list(api.Node{Path: "a", Kind: 2, Mode: 1}), list(api.Node{Path: "a", Kind: 2, Mode: -1}), list(api.Node{Path: "a", Kind: 2, Mode: 420}),
		list(link("a", "")), list(link("a", rep("x", 401))), list(link("a", "\x00")), list(link("a", "b\x00")), list(link("a", "\x00b")), list(api.Node{Path: "a", Kind: 3, Data: "b", Mode: 1}), list(api.Node{Path: "a", Kind: 3, Data: "b", Mode: -1}),
		// so many
		wide(1001), wide(5000), make([]api.Node, 1001), make([]api.Node, 1<<20),
		// a fault far behind
		append(wide(999), file("", "")), append(wide(999), file("1998", "")), append(wide(999), file("2/x", "")), append(wide(999), api.Node{Path: "2"}), append(some(), file("a/f", "")),
	}
}

// P6.1: Check.
func TestCheck(t *testing.T) {
	for i, l := range rightLists() {
		if e := tree.Check(l); e != api.OK {
			t.Errorf("of %d, %s, Check is %d", i, told(l), e)
		}
	}
	for i, l := range wrongLists() {
		if e := tree.Check(l); e != api.ErrTree {
			t.Errorf("of %d, %s, Check is %d", i, told(l), e)
		}
	}
}

// asFirst is a list whose first node has the path "".
func asFirst(l []api.Node) []api.Node {
	v := slices.Clone(l)
	v[0].Path = ""
	return v
}

// P6.1: Right of one node, and of a directory with others.
func TestRight(t *testing.T) {
	if !tree.Right(nil) || !tree.Right([]api.Node{}) {
		t.Error("the empty list is no value")
	}
	for i, l := range rightLists() {
		if len(l) > 0 && tree.Right(l) {
			t.Errorf("%d, %s, is a value without a first node", i, told(l))
		}
		if len(l) == 1 && !tree.Right(asFirst(l)) {
			t.Errorf("%d, %s, is no value", i, told(asFirst(l)))
		}
		if tree.Right(append(list(dir("")), l...)) != (len(l) < 1000) {
			t.Errorf("of %d, %s in a directory, Right is wrong", i, told(l))
		}
		for _, first := range list(file("", "x"), link("", "x"), api.Node{}, api.Node{Kind: 4}, api.Node{Kind: 2, Mode: 1}, api.Node{Kind: 2, Data: "x"}, dir("a"), dir("/")) {
			if v := append(list(first), l...); len(l) > 0 && tree.Right(v) {
				t.Errorf("of %d Right(%s) is true", i, told(v))
			}
		}
	}
	for i, l := range wrongLists() {
		if tree.Right(append(list(dir("")), l...)) {
			t.Errorf("%d, %s, in a directory is a value", i, told(l))
		}
		if v := asFirst(l); tree.Right(v) != slowRight(v) {
			t.Errorf("of %d Right(%s) is wrong", i, told(v))
		}
	}
	if !tree.Right(append(list(dir("")), wide(999)...)) || tree.Right(append(list(dir("")), wide(1000)...)) {
		t.Error("the greatest value has not 1000 nodes")
	}
}

// somePaths are paths of some's nodes, others, and what is none.
func somePaths() []string {
	return []string{"", "a", "a/b", "a/c", "a/c/d", "a/c/e", "a/c.d", "a.b", "ab", "b", "é", "A", "a/", "/a", "/", "a//b", "a/c/", "a/x", "a/b/x", "a/c/d/x", "b/x", "x/y", "c", "a!", ".", "..", "a/..", "\xff", "a/\xff", "a\x00", rep("a", 65), rep("a/", 16) + "a", rep("a", 1<<20)}
}

// P6.1: Get.
func TestGet(t *testing.T) {
	for _, n := range some() {
		if got, ok := tree.Get(some(), n.Path); got != n || !ok {
			t.Errorf("Get(%q) is %v, %v", n.Path, got, ok)
		}
	}
	for _, p := range []string{"", "c", "a/", "/a", "a//b", "a/x", "a/b/x", "b/x", "A", "é/", "a/c/d/e", "\xff", rep("a", 1<<20)} {
		if got, ok := tree.Get(some(), p); got != (api.Node{}) || ok {
			t.Errorf("Get(%.80q) is %v, %v", p, got, ok)
		}
	}
	if got, ok := tree.Get(nil, "a"); got != (api.Node{}) || ok {
		t.Errorf("Get of nothing is %v, %v", got, ok)
	}
	if got, ok := tree.Get(wide(1000), "1999"); got != file("1999", "x") || !ok {
		t.Errorf("Get of the last of 1000 is %v, %v", got, ok)
	}
}

// P6.1: At.
func TestAt(t *testing.T) {
	for _, x := range []struct {
		path string
		want []api.Node
	}{
		{"a", list(dir(""), file("b", "x"), dir("c"), link("c/d", "../b"), file("c/e", ""), file("c.d", "y"))},
		{"a/b", list(file("", "x"))}, {"a/c", list(dir(""), link("d", "../b"), file("e", ""))}, {"a/c/d", list(link("", "../b"))}, {"a/c.d", list(file("", "y"))}, {"a.b", list(file("", "z"))}, {"ab", list(file("", "x"))}, {"b", list(dir(""))}, {"é", list(link("", "\xff"))},
		{"", append(list(dir("")), some()...)},
		{"c", nil}, {"a/x", nil}, {"a/b/x", nil}, {"a/", nil}, {"/a", nil}, {"/", nil}, {"a/c/", nil}, {"a//b", nil}, {"A", nil}, {"..", nil}, {"\xff", nil}, {rep("a", 1<<20), nil},
	} {
		if v := tree.At(some(), x.path); !same(v, x.want) || len(x.want) > 0 && !tree.Right(v) {
			t.Errorf("At(%.80q) is %s", x.path, told(v))
		}
	}
	if v := tree.At(nil, ""); !same(v, list(dir(""))) {
		t.Errorf("the root of nothing is %s", told(v))
	}
	if v := tree.At(nil, "a"); len(v) != 0 {
		t.Errorf("At a path of nothing is %s", told(v))
	}
	// The root of the greatest tree is one node too many to be a value.
	if v := tree.At(wide(1000), ""); !same(v, append(list(dir("")), wide(1000)...)) || tree.Right(v) {
		t.Errorf("the root of 1000 nodes has %d", len(v))
	}
	names := list(dir("a"), file("a/a", "x"), dir("a/ab"), file("a/ab/a", "y"), file("aa", ""))
	if v := tree.At(names, "a"); !same(v, list(dir(""), file("a", "x"), dir("ab"), file("ab/a", "y"))) {
		t.Errorf("At a path whose names come again below is %s", told(v))
	}
}

// P6.1: Put at the edges: where it is refused, by which error ahead of which, and where it just isn't.
func TestPutAtTheEdges(t *testing.T) {
	bottom, below := deep(15, "a")
	long, end := deep(6, rep("a", 64)) // 389 bytes
	two := list(dir(""), dir("b"), file("b/c", ""))
	noValue := list(file("x", ""))
	for i, x := range []struct {
		t    []api.Node
		path string
		v    []api.Node
		want api.Errno
	}{
		// no tree, or no value, whatever the path
		{list(file("a/b", "")), "a", nil, api.ErrTree}, {list(file("a/b", "")), "", nil, api.ErrTree}, {wide(1001), "a", two, api.ErrTree}, {some(), "a", noValue, api.ErrTree}, {some(), "", noValue, api.ErrTree}, {some(), "x/y", noValue, api.ErrTree}, {some(), "a", append(list(dir("")), wide(1000)...), api.ErrTree}, {some(), "a", list(file("", ""), file("a", "")), api.ErrTree}, {some(), "a", list(api.Node{}), api.ErrTree},
		// no path, whatever is put
		{some(), "", nil, api.ErrPath}, {some(), "", two, api.ErrPath}, {some(), "/", two, api.ErrPath}, {some(), "a/", nil, api.ErrPath}, {some(), "a//b", two, api.ErrPath}, {some(), "x//y", two, api.ErrPath}, {some(), "..", nil, api.ErrPath}, {some(), "a/..", two, api.ErrPath}, {some(), "\xff", nil, api.ErrPath}, {some(), rep("a", 65), nil, api.ErrPath}, {some(), rep("x/", 16) + "x", two, api.ErrPath}, {nil, rep("a", 1<<20), nil, api.ErrPath},
		// no directory above
		{some(), "a/b/c", two, api.ErrParent}, {some(), "é/x", two, api.ErrParent}, {some(), "c/d", two, api.ErrParent}, {some(), "a/x/y", two, api.ErrParent}, {some(), "A/x", two, api.ErrParent}, {nil, "a/b", list(file("", "")), api.ErrParent}, {list(file("a", "")), "a/a", list(file("", "")), api.ErrParent},
		{some(), rep("x/", 15) + "x", two, api.ErrParent}, {wide(1000), "x/y", two, api.ErrParent},
		// too deep, or too long
		{bottom, below + "/a", two, api.ErrPath}, {bottom, below, two, api.ErrPath}, {bottom, below, list(dir(""), file("b", "")), api.OK}, {bottom, below + "/a", list(dir("")), api.OK}, {bottom, "a", append(list(dir("")), deepest(15)...), api.OK}, {bottom, "a", append(list(dir("")), deepest(16)...), api.ErrPath}, {bottom, "a/a", append(list(dir("")), deepest(15)...), api.ErrPath},
		{long, end, list(dir(""), file(rep("b", 10), "")), api.OK}, {long, end, list(dir(""), file(rep("b", 11), "")), api.ErrPath}, {long, end + "/b", list(dir(""), file(rep("b", 8), "")), api.OK}, {long, end + "/b", list(dir(""), file(rep("b", 9), "")), api.ErrPath}, {nil, "a", append(list(dir("")), down(398)...), api.OK}, {nil, "a", append(list(dir("")), down(399)...), api.ErrPath}, {nil, "a", append(list(dir("")), down(400)...), api.ErrPath},
		{wide(999), "x", append(list(dir("")), deepest(16)...), api.ErrPath},
		// too many
		{wide(1000), "x", list(file("", "")), api.ErrMore}, {wide(1000), "1500", list(file("", "")), api.OK}, {wide(1000), "1500", list(dir(""), file("a", "")), api.ErrMore}, {wide(999), "x", list(file("", "")), api.OK}, {wide(1000), "x", nil, api.OK}, {wide(1000), "1500", nil, api.OK}, {wide(1), "x", append(list(dir("")), wide(999)...), api.ErrMore}, {wide(1), "1000", append(list(dir("")), wide(999)...), api.OK}, {nil, "x", append(list(dir("")), wide(999)...), api.OK}, {some(), "a", append(list(dir("")), wide(995)...), api.OK}, {some(), "a", append(list(dir("")), wide(996)...), api.ErrMore},
	} {
		u, e := tree.Put(x.t, x.path, x.v)
		if e != x.want || e != api.OK && len(u) != 0 {
			t.Errorf("%d: Put at %.80q is %d nodes, %d, not %d", i, x.path, len(u), e, x.want)
		}
		if want, _ := slowPut(x.t, x.path, x.v); !same(u, want) {
			t.Errorf("%d: Put at %.80q is %s", i, x.path, told(u))
		}
	}
}

// P6.1: Put of nothing, in the place of something, and where nothing was.
func TestPut(t *testing.T) {
	small := list(dir("a"), file("a/b", "x"), file("a.b", "y"))
	for _, x := range []struct {
		path string
		v    []api.Node
		want []api.Node
	}{
		// nothing
		{"a", nil, list(file("a.b", "y"))}, {"a/b", nil, list(dir("a"), file("a.b", "y"))}, {"a.b", nil, list(dir("a"), file("a/b", "x"))}, {"a", []api.Node{}, list(file("a.b", "y"))}, {"c", nil, small}, {"a/c", nil, small}, {"a/b/c", nil, small}, {"x/y/z", nil, small}, {"a.", nil, small},
		// something in the place of something
		{"a", list(file("", "z")), list(file("a", "z"), file("a.b", "y"))}, {"a", list(dir("")), list(dir("a"), file("a.b", "y"))}, {"a", list(dir(""), link("c", "b")), list(dir("a"), link("a/c", "b"), file("a.b", "y"))}, {"a/b", list(link("", "z")), list(dir("a"), link("a/b", "z"), file("a.b", "y"))}, {"a.b", list(dir(""), dir("a"), file("a/b", "")), list(dir("a"), file("a/b", "x"), dir("a.b"), dir("a.b/a"), file("a.b/a/b", ""))},
		// something where nothing was
		{"a/a", list(file("", "")), list(dir("a"), file("a/a", ""), file("a/b", "x"), file("a.b", "y"))}, {"a/c", list(dir(""), file("d", "")), list(dir("a"), file("a/b", "x"), dir("a/c"), file("a/c/d", ""), file("a.b", "y"))}, {"A", list(file("", "")), list(file("A", ""), dir("a"), file("a/b", "x"), file("a.b", "y"))}, {"a!", list(file("", "")), list(dir("a"), file("a/b", "x"), file("a!", ""), file("a.b", "y"))}, {"b", list(dir("")), list(dir("a"), file("a/b", "x"), file("a.b", "y"), dir("b"))},
	} {
		if u, e := tree.Put(small, x.path, x.v); !same(u, x.want) || e != api.OK {
			t.Errorf("Put(%q, %s) is %s, %d", x.path, told(x.v), told(u), e)
		}
	}
	if u, e := tree.Put(nil, "a", nil); len(u) != 0 || e != api.OK {
		t.Errorf("Put of nothing into nothing is %s, %d", told(u), e)
	}
}

// P6.1: Names.
func TestNames(t *testing.T) {
	for dir, want := range map[string][]string{
		"": {"a", "a.b", "ab", "b", "é"}, "a": {"b", "c", "c.d"}, "a/c": {"d", "e"}, "b": nil,
		// no directory
		"a/b": nil, "a/c/d": nil, "é": nil, "c": nil, "a/x": nil, "A": nil, "a/": nil, "/": nil, "/a": nil, ".": nil, "\xff": nil, "a/c/": nil, rep("a", 1<<20): nil,
	} {
		if got := tree.Names(some(), dir); !slices.Equal(got, want) {
			t.Errorf("Names(%.80q) is %q", dir, got)
		}
	}
	if got := tree.Names(nil, ""); len(got) != 0 {
		t.Errorf("Names of nothing is %q", got)
	}
	if got := tree.Names(list(file("B", ""), dir("a"), file("a/z", ""), file("a!", ""), file("b", "")), ""); !slices.Equal(got, []string{"B", "a", "a!", "b"}) {
		t.Errorf("Names is %q", got)
	}
	if got := tree.Names(wide(1000), ""); len(got) != 1000 || got[999] != "1999" {
		t.Errorf("Names of 1000 is %d", len(got))
	}
}

// P6.1: Same is asked of any lists.
func TestSame(t *testing.T) {
	all := append(rightLists(), wrongLists()[:70]...)
	for i, a := range all {
		for j, b := range all {
			want := len(a) == len(b)
			for k := range min(len(a), len(b)) {
				want = want && a[k].Path == b[k].Path && a[k].Kind == b[k].Kind && a[k].Data == b[k].Data && a[k].Mode == b[k].Mode
			}
			if tree.Same(a, b) != want || tree.Same(a, slices.Clone(a)) != true {
				t.Errorf("Same of %d and %d is not %v", i, j, want)
			}
		}
	}
	one := api.Node{Path: "a", Kind: 1, Data: "x", Mode: 1}
	for _, other := range list(api.Node{Path: "b", Kind: 1, Data: "x", Mode: 1}, api.Node{Path: "a", Kind: 2, Data: "x", Mode: 1}, api.Node{Path: "a", Kind: 1, Data: "y", Mode: 1}, api.Node{Path: "a", Kind: 1, Data: "x", Mode: 2}) {
		if tree.Same(list(one), list(other)) || tree.Same(list(dir("a"), one), list(dir("a"), other)) {
			t.Errorf("%v and %v are the same", one, other)
		}
	}
	if !tree.Same(nil, []api.Node{}) || tree.Same(nil, make([]api.Node, 1)) || tree.Same(list(one), list(one, one)) || tree.Same(list(one, one), list(one)) {
		t.Error("Same of lists of unlike lengths")
	}
}

// P6.1: Differ.
func TestDiffer(t *testing.T) {
	small := list(dir("a"), file("a/b", "x"), file("a.b", "y"))
	for _, x := range []struct {
		a, b []api.Node
		want []string
	}{
		{nil, nil, nil}, {small, small, nil}, {some(), some(), nil}, {small, nil, []string{"a", "a/b", "a.b"}},
		{small, list(dir("a"), file("a.b", "y")), []string{"a/b"}}, {small, list(file("a", ""), file("a.b", "y")), []string{"a", "a/b"}}, {small, list(dir("a"), file("a/b", "z"), file("a.b", "y")), []string{"a/b"}}, {small, list(dir("a"), api.Node{Path: "a/b", Kind: 1, Data: "x", Mode: 421}, file("a.b", "y")), []string{"a/b"}}, {small, list(dir("a"), link("a/b", "x"), file("a.b", "y")), []string{"a/b"}},
		{small, list(file("A", ""), file("z", "")), []string{"A", "a", "a/b", "a.b", "z"}}, {small, list(dir("a"), file("a/a", ""), file("a/c", ""), file("a!", "")), []string{"a/a", "a/b", "a/c", "a!", "a.b"}},
		{wide(1000), wide(999), []string{"1999"}}, {wide(1000)[1:], wide(1000), []string{"1000"}},
		// a list that is no tree
		{wrongLists()[0], nil, nil}, {small, wide(1001), nil}, {small, list(file("b", ""), file("a", "")), nil}, {list(file("b", ""), file("a", "")), list(file("a", "")), nil},
	} {
		if got, back := tree.Differ(x.a, x.b), tree.Differ(x.b, x.a); !slices.Equal(got, x.want) || !slices.Equal(back, x.want) {
			t.Errorf("Differ(%s, %s) is %q, and turned %q", told(x.a), told(x.b), got, back)
		}
	}
}

// P6.1: what is no tree has nothing in it.
func TestNoTree(t *testing.T) {
	for i, l := range wrongLists() {
		for _, p := range []string{"", "a", "a/b", "b", "1998", "2", l[0].Path, l[len(l)-1].Path} {
			n, ok := tree.Get(l, p)
			if n != (api.Node{}) || ok || len(tree.At(l, p)) != 0 || len(tree.Names(l, p)) != 0 {
				t.Errorf("%d, %s, has something at %.80q", i, told(l), p)
			}
			if u, e := tree.Put(l, p, nil); len(u) != 0 || e != api.ErrTree {
				t.Errorf("%d: Put into %s at %.80q is %d nodes, %d", i, told(l), p, len(u), e)
			}
			if u, e := tree.Put(some(), p, append(list(dir("")), l...)); len(u) != 0 || e != api.ErrTree {
				t.Errorf("%d: Put of %s at %.80q is %d nodes, %d", i, told(l), p, len(u), e)
			}
		}
		if len(tree.Differ(l, nil)) != 0 || len(tree.Differ(nil, l)) != 0 || len(tree.Differ(l, l)) != 0 || len(tree.Differ(l, some())) != 0 {
			t.Errorf("%d, %s, differs", i, told(l))
		}
	}
}

// checkSlowly holds all calls of a list at a path against the slow ones.
func checkSlowly(t *testing.T, l []api.Node, path string) {
	t.Helper()
	n, ok := tree.Get(l, path)
	if m, there := slowGet(l, path); n != m || ok != there {
		t.Fatalf("Get(%s, %q) is %v, %v", told(l), path, n, ok)
	}
	if v := tree.At(l, path); !same(v, slowAt(l, path)) {
		t.Fatalf("At(%s, %q) is %s", told(l), path, told(v))
	}
	if names := tree.Names(l, path); !slices.Equal(names, slowNamesIn(l, path)) {
		t.Fatalf("Names(%s, %q) is %q", told(l), path, names)
	}
}

// checkPutSlowly holds Put against the slow one.
func checkPutSlowly(t *testing.T, l []api.Node, path string, v []api.Node) {
	t.Helper()
	u, e := tree.Put(l, path, v)
	if want, wantE := slowPut(l, path, v); !same(u, want) || e != wantE {
		t.Fatalf("Put(%s, %q, %s) is %s, %d, not %s, %d", told(l), path, told(v), told(u), e, told(want), wantE)
	}
}

// shortLists are all lists of at most most of these nodes.
func shortLists(most int, nodes ...api.Node) [][]api.Node {
	all := [][]api.Node{nil}
	last := all
	for range most {
		var next [][]api.Node
		for _, l := range last {
			for _, n := range nodes {
				next = append(next, append(slices.Clone(l), n))
			}
		}
		all = append(all, next...)
		last = next
	}
	return all
}

// P6.1: every short list of some nodes.
func TestShortLists(t *testing.T) {
	nodes := list(dir(""), file("", "x"), dir("a"), file("a", "x"), link("a", ""), dir("a/b"), file("a/b", "x"), file("a/b/c", "x"), dir("a.b"), link("a.b/c", "x"), dir("a/"), file("b", "x"))
	all := shortLists(4, nodes...)
	for _, l := range all {
		if tree.Check(l) != slowCheck(l) || tree.Right(l) != slowRight(l) {
			t.Fatalf("of %s Check is %d, Right is %v", told(l), tree.Check(l), tree.Right(l))
		}
		for _, p := range []string{"", "a", "a/b", "a.b", "a/", "/"} {
			checkSlowly(t, l, p)
		}
	}
	some := slices.DeleteFunc(slices.Clone(all), func(l []api.Node) bool { return len(l) > 1 && !slowTree(l) && !slowRight(l) })
	for i, l := range some {
		v := some[(i*7919)%len(some)]
		for _, p := range []string{"", "a", "a/b", "a.b", "a/b/c", "a/"} {
			checkPutSlowly(t, l, p, v)
			checkPutSlowly(t, v, p, l)
		}
		if got := tree.Differ(l, v); !slices.Equal(got, slowDiffer(l, v)) {
			t.Fatalf("Differ(%s, %s) is %q", told(l), told(v), got)
		}
	}
}

// pathsOf are the paths of a tree's nodes, and some others.
func pathsOf(l []api.Node) []string {
	all := somePaths()[:len(somePaths())-1]
	for _, n := range l {
		all = append(all, n.Path, n.Path+"/a")
	}
	return all
}

// P6.1, P6.2, P6.3: of any trees and any values.
func TestAnyTrees(t *testing.T) {
	dice := rand.New(rand.NewSource(6))
	for range 300 {
		l, v := anyTree(dice, 25), anyValue(dice, 12)
		if !isTree(l) || !tree.Right(v) {
			t.Fatalf("%s is no tree, or %s no value", told(l), told(v))
		}
		for _, p := range pathsOf(l) {
			checkSlowly(t, l, p)
			checkPutSlowly(t, l, p, v)
			checkBack(t, l, p)
			checkThere(t, l, p, v)
		}
		checkDiffer(t, l, anyTree(dice, 25))
	}
}

// P6.2: Put of what stands at a path changes nothing.
func checkBack(t *testing.T, l []api.Node, p string) {
	t.Helper()
	u, e := tree.Put(l, p, tree.At(l, p))
	if e != api.OK && slowPath(p) || e == api.OK && !same(u, l) {
		t.Fatalf("Put of At(%s, %q) is %s, %d", told(l), p, told(u), e)
	}
}

// P6.2, P6.3: what was put stands there, what stands elsewhere is as it was, and Differ names nothing else, and all that is unlike.
func checkThere(t *testing.T, l []api.Node, p string, v []api.Node) {
	t.Helper()
	u, e := tree.Put(l, p, v)
	if e != api.OK {
		return
	}
	if !isTree(u) || !same(tree.At(u, p), v) {
		t.Fatalf("behind Put(%s, %q, %s), which is %s, At is %s", told(l), p, told(v), told(u), told(tree.At(u, p)))
	}
	within := func(n api.Node) bool { return slowWithin(n.Path, p) }
	if !same(slices.DeleteFunc(slices.Clone(l), within), slices.DeleteFunc(slices.Clone(u), within)) {
		t.Fatalf("Put(%s, %q, %s) is %s elsewhere", told(l), p, told(v), told(u))
	}
	checkDiffer(t, l, u)
	for _, q := range tree.Differ(l, u) {
		if !slowWithin(q, p) {
			t.Fatalf("Put(%s, %q, %s) makes a difference at %q", told(l), p, told(v), q)
		}
	}
}

// P6.3: Differ is empty just for the same trees.
func checkDiffer(t *testing.T, a, b []api.Node) {
	t.Helper()
	got := tree.Differ(a, b)
	if !slices.Equal(got, slowDiffer(a, b)) || !slices.Equal(got, tree.Differ(b, a)) {
		t.Fatalf("Differ(%s, %s) is %q", told(a), told(b), got)
	}
	if (len(got) == 0) != same(a, b) || tree.Same(a, b) != same(a, b) || len(tree.Differ(a, a)) != 0 {
		t.Fatalf("Differ(%s, %s) is %q, but Same is %v", told(a), told(b), got, tree.Same(a, b))
	}
}

// P6.2: at the edges of what may be.
func TestBackAtTheEdges(t *testing.T) {
	for _, l := range rightLists() {
		for _, n := range l[:min(len(l), 20)] {
			checkBack(t, l, n.Path)
			checkBack(t, l, n.Path+"x")
			checkThere(t, l, n.Path, nil)
			checkThere(t, l, n.Path, list(dir(""), file(rep("é", 32), rep("x", 65536)), link("ê", rep("y", 400))))
		}
	}
	if u := put(put(some(), "a", append(list(dir("")), wide(900)...)...), "a", tree.At(some(), "a")...); !same(u, some()) {
		t.Errorf("put and put back is %s", told(u))
	}
}

// behind is a list with some room behind it, that is filled.
func behind(l []api.Node) []api.Node {
	room := append(slices.Clone(l), slices.Repeat(list(file("room", "x")), 40)...)
	return room[:len(l)]
}

// P6.4: what is handed in stays as it was, and so does the room behind it.
func TestNothingHandedInIsChanged(t *testing.T) {
	values := [][]api.Node{nil, list(file("", "x")), append(list(dir("")), some()...), some()}
	for _, l := range [][]api.Node{nil, some(), deepest(16), wide(1000), wrongLists()[30]} {
		for _, p := range somePaths() {
			for _, v := range values {
				a, b := behind(l), behind(v)
				tree.Put(a, p, b)
				tree.Get(a, p)
				tree.At(a, p)
				tree.Names(a, p)
				tree.Differ(a, b)
				tree.Differ(b, a)
				tree.Same(a, b)
				tree.Check(b)
				tree.Right(b)
				if !same(a[:len(a)+40], behind(l)[:len(l)+40]) || !same(b[:len(b)+40], behind(v)[:len(v)+40]) {
					t.Fatalf("at %.80q %s or %s was changed", p, told(l), told(v))
				}
			}
		}
	}
}

// spoil changes all that a list has, and the room behind it.
func spoil(l []api.Node) {
	l = l[:cap(l)]
	for i := range l {
		l[i] = file("spoilt", "x")
	}
}

// P6.4, R7: lists that are answered are their own, and what is done to one changes no other, and nothing that was handed in.
func TestAnswersAreNew(t *testing.T) {
	l, v := some(), append(list(dir("")), some()...)
	for _, p := range append(somePaths(), "a/b", "z") {
		for _, x := range [][]api.Node{nil, v, list(file("", "x")), tree.At(l, p)} {
			keptX := slices.Clone(x)
			u, e := tree.Put(l, p, x)
			at, names, differ := tree.At(l, p), tree.Names(l, p), tree.Differ(l, nil)
			u2, at2, names2, differ2 := slices.Clone(u), slices.Clone(at), slices.Clone(names), slices.Clone(differ)
			again, e2 := tree.Put(l, p, x)
			atAgain := tree.At(l, p)
			spoil(again)
			spoil(atAgain)
			for _, texts := range [][]string{tree.Names(l, p), tree.Differ(l, nil)} {
				clear(texts[:cap(texts)])
			}
			if !same(u, u2) || !same(at, at2) || !slices.Equal(names, names2) || !slices.Equal(differ, differ2) || e != e2 {
				t.Fatalf("at %.80q two answers share room", p)
			}
			if !same(l, some()) || !same(x, keptX) {
				t.Fatalf("at %.80q an answer shares room with what was handed in", p)
			}
		}
	}
}

// P6.4: what is handed in is not kept: what is done to it behind the call changes no answer.
func TestNothingIsKept(t *testing.T) {
	l, v := some(), list(dir(""), file("x", "y"))
	u, _ := tree.Put(l, "b", v)
	back, _ := tree.Put(l, "nothing/there", nil)
	at, root := tree.At(l, "a"), tree.At(l, "")
	want := append(some()[:9], file("b/x", "y"), some()[9])
	spoil(l)
	spoil(v)
	if !same(u, want) || !same(back, some()) || !same(at, slowAt(some(), "a")) || !same(root, slowAt(some(), "")) {
		t.Errorf("with what was handed in spoilt the answers are %s, %s, %s, %s", told(u), told(back), told(at), told(root))
	}
	if n, ok := tree.Get(some(), "a/b"); n != file("a/b", "x") || !ok {
		t.Errorf("Get is %v, %v", n, ok)
	}
}
