package scan_test

import (
	"fmt"
	"math/rand"
	"slices"
	"strconv"
	"strings"
	"testing"

	"hawser/api"
	"hawser/arch"
	"hawser/disk"
	"hawser/scan"
	"hawser/tree"
)

func dir(path string) api.Node { return api.Node{Path: path, Kind: api.Dir} }
func file(path, data string) api.Node {
	return api.Node{Path: path, Kind: api.File, Data: data, Mode: 420}
}
func link(path, to string) api.Node     { return api.Node{Path: path, Kind: api.Link, Data: to} }
func list(nodes ...api.Node) []api.Node { return nodes }
func rep(s string, n int) string        { return strings.Repeat(s, n) }

// fake is a fingerprint that no data have here.
func fake() string { return rep("0", 64) }

// rules are told by words: "-" ahead of a pattern to ignore, "+" to keep.
func rules(words ...string) []api.Rule {
	var all []api.Rule
	for _, w := range words {
		all = append(all, api.Rule{Ignore: w[0] == '-', Pattern: w[1:]})
	}
	return all
}

// steps are told by words: "N" ahead of the path of a Names, "G" of a Get.
func steps(words ...string) []api.Did {
	var all []api.Did
	for _, w := range words {
		call := map[byte]string{'N': "Names", 'G': "Get"}[w[0]]
		all = append(all, api.Did{Call: call, Path: w[1:]})
	}
	return all
}

// some is a tree with all kinds; its inodes are 1 to 9.
func some() []api.Node {
	return list(dir(".hawser"), file(".hawser/x", "own"), dir("a"), file("a/b", "xyz"), dir("a/c"), link("a/c/d", "../b"), file("a.b", ""), dir("e"), file("f", "u"))
}

// with is a disk that has this tree.
func with(t testing.TB, l []api.Node) *disk.Disk {
	t.Helper()
	d, e := disk.New(l)
	if e != api.OK {
		t.Fatalf("New is %d", e)
	}
	return d
}

// booted is a disk that has this tree, these fates and these edits.
func booted(t testing.TB, l []api.Node, fates []api.Fate, edits ...api.Edit) *disk.Disk {
	t.Helper()
	d := with(t, l)
	d.Boot(fates, edits)
	return d
}

func askScan(d *disk.Disk, rules []api.Rule) answer {
	nodes, stamps, blocked, e := scan.Scan(d, rules)
	return answer{nodes: nodes, stamps: stamps, blocked: blocked, err: e}
}

func askValue(d *disk.Disk, rules []api.Rule, path string) answer {
	nodes, stamps, inside, e := scan.Value(d, rules, path)
	return answer{nodes: nodes, stamps: stamps, inside: inside, err: e}
}

func askPrints(d *disk.Disk, rules []api.Rule, a api.Archive, fast bool) answer {
	nodes, stamps, blocked, e := scan.Prints(d, rules, a, fast)
	return answer{nodes: nodes, stamps: stamps, blocked: blocked, err: e}
}

// short is the beginning of what can be told, for messages.
func short(x any) string {
	all := fmt.Sprintf("%+v", x)
	return strings.ToValidUTF8(all[:min(len(all), 400)], "?")
}

// want holds an answer against another one.
func want(t *testing.T, asked any, got, want answer) {
	t.Helper()
	if !got.same(want) {
		t.Errorf("%s is %s, not %s", short(asked), short(got), short(want))
	}
}

// wantSteps holds a disk's steps against others.
func wantSteps(t *testing.T, asked any, d *disk.Disk, want []api.Did) {
	t.Helper()
	if !slices.Equal(d.Trace(), want) {
		t.Errorf("%s asks for %s, not %s", short(asked), short(d.Trace()), short(want))
	}
}

// stampsOf are what a new disk with the tree l has for the nodes within some paths, in their order.
func stampsOf(l []api.Node, nodes []api.Node) []api.Stamp {
	var all []api.Stamp
	for _, n := range nodes {
		at := slices.IndexFunc(l, func(m api.Node) bool { return m.Path == n.Path })
		all = append(all, api.Stamp{Ino: at + 1, Size: len(l[at].Data)})
	}
	return all
}

// wide is a tree of n files in the root (n up to 9000).
func wide(n int) []api.Node {
	var t []api.Node
	for i := range n {
		t = append(t, file(strconv.Itoa(1000+i), "x"))
	}
	return t
}

// deep is a tree of n directories, each within the one ahead of it.
func deep(n int, name string) []api.Node {
	var t []api.Node
	for i := range n {
		t = append(t, dir(rep("/"+name, i+1)[1:]))
	}
	return t
}

// P11.1: Own is what the chapter says.
func TestOwn(t *testing.T) {
	if scan.Own != ".hawser" {
		t.Error(scan.Own)
	}
}

// P11.1: Seen.
func TestSeen(t *testing.T) {
	for _, x := range []struct {
		rules []api.Rule
		seen  []string
		not   []string
	}{
		{nil, []string{"a", "a/b", ".a", "é", ".hawserx", ".hawse", ".hawser~", ".HAWSER", "a/.hawser", "a/.hawser/x", rep("a", 64), rep("/a", 16)[1:]}, []string{".hawser", ".hawser/x", ".hawser/.hawser", ".hawser/x/y"}},
		{nil, nil, []string{"", "/", "/a", "a/", "a//b", ".", "..", "a/..", "\x00", "\xff", rep("a", 65), rep("/a", 17)[1:], rep("a", 1<<20)}},
		{rules("-*.o"), []string{"o", "a.oo", "a/b"}, []string{"c.o", "a/c.o", "c.o/a", "a/c.o/b/c", ""}},
		{rules("-a/b"), []string{"a", "a/c", "b", "c/a/b"}, []string{"a/b", "a/b/c"}},
		{rules("-*", "+a"), []string{"a", "a/a", "a/a/a"}, []string{"b", "a/b", "b/a", "a/b/a"}},
		{rules("-*.o", "+kept.o"), []string{"kept.o", "d/kept.o"}, []string{"c.o", "c.o/kept.o"}},
		{rules("+kept.o", "-*.o"), nil, []string{"kept.o"}},
		{rules("-**"), nil, []string{"a", "a/b"}},
		// No rule makes what is in the house's own directory seen.
		{rules("+**", "+.hawser", "+.hawser/x"), []string{"a"}, []string{".hawser", ".hawser/x"}},
		{rules("-.hawser"), []string{"a", ".hawserx"}, []string{".hawser", "a/.hawser", "a/.hawser/x"}},
		// What is no pattern says nothing.
		{rules("-", "-a/", "-[", "-\xff"), []string{"a", "a/b", "["}, []string{"a/"}},
		{append(slices.Repeat(rules("-a"), 200), rules("+a")...), []string{"a"}, []string{""}},
		{append(slices.Repeat(rules("+a"), 200), rules("-a")...), []string{"b"}, []string{"a"}},
	} {
		for _, p := range x.seen {
			if !scan.Seen(x.rules, p) || !slowSeen(x.rules, p) {
				t.Errorf("with %s %s is not seen", short(x.rules), short(p))
			}
		}
		for _, p := range x.not {
			if scan.Seen(x.rules, p) || slowSeen(x.rules, p) {
				t.Errorf("with %s %s is seen", short(x.rules), short(p))
			}
		}
	}
}

// scanned is what a Scan of a new disk answers.
type scanned struct {
	tree    []api.Node
	rules   []api.Rule
	nodes   []api.Node
	blocked []string
	steps   []api.Did
}

// checkScans makes the Scans, each of a disk of its own.
func checkScans(t *testing.T, rows []scanned) {
	t.Helper()
	for _, r := range rows {
		d := with(t, r.tree)
		all := answer{nodes: r.nodes, stamps: stampsOf(r.tree, r.nodes), blocked: r.blocked}
		want(t, r, askScan(d, r.rules), all)
		wantSteps(t, r, d, r.steps)
		if !slices.Equal(d.Tree(), r.tree) {
			t.Errorf("%s leaves %s", short(r), short(d.Tree()))
		}
		d = with(t, r.tree)
		all.nodes = slowBare(all.nodes)
		want(t, r, askPrints(d, r.rules, api.Archive{}, false), all)
		wantSteps(t, r, d, r.steps)
	}
}

// P11.1: Scan without rules: all but the house's own directory, down into each directory as it comes.
func TestScan(t *testing.T) {
	big := file("a", rep("x", 65536))
	order := list(dir("a"), file("a/z", "1"), file("a!", "2"), file("a.b", "3"), file("é", "4"), file("\U0010ffff", "5"))
	checkScans(t, []scanned{
		{nil, nil, nil, nil, steps("N")},
		{list(big), nil, list(big), nil, steps("N", "Ga")},
		{some(), nil, some()[2:], nil, steps("N", "Ga", "Na", "Ga/b", "Ga/c", "Na/c", "Ga/c/d", "Ga.b", "Ge", "Ne", "Gf")},
		{order, nil, order, nil, steps("N", "Ga", "Na", "Ga/z", "Ga!", "Ga.b", "Gé", "G\U0010ffff")},
		{list(dir("a"), dir("a/b"), file("a/b/c", ""), file("a/c", "")), nil, list(dir("a"), dir("a/b"), file("a/b/c", ""), file("a/c", "")), nil, steps("N", "Ga", "Na", "Ga/b", "Na/b", "Ga/b/c", "Ga/c")},
	})
	wideSteps := steps("N")
	for _, n := range wide(1000) {
		wideSteps = append(wideSteps, steps("G"+n.Path)...)
	}
	deepSteps := steps("N")
	for _, n := range deep(16, "d") {
		deepSteps = append(deepSteps, steps("G"+n.Path, "N"+n.Path)...)
	}
	checkScans(t, []scanned{{wide(1000), nil, wide(1000), nil, wideSteps}, {deep(16, "d"), nil, deep(16, "d"), nil, deepSteps}})
}

// P11.1: what isn't seen is not asked for, and blocks the directory that it stands right in.
func TestBlocked(t *testing.T) {
	checkScans(t, []scanned{
		{list(file("a", ""), file("c.o", "")), rules("-*.o"), list(file("a", "")), []string{""}, steps("N", "Ga")},
		{list(dir("a"), file("a/c.o", "")), rules("-*.o"), list(dir("a")), []string{"a"}, steps("N", "Ga", "Na")},
		{list(dir("a"), file("a/b", "")), rules("-a"), nil, []string{""}, steps("N")},
		{list(dir("a"), dir("a/b"), file("a/b/c", "")), rules("-a/b", "+c"), list(dir("a")), []string{"a"}, steps("N", "Ga", "Na")},
		{list(dir("a"), dir("a/b"), file("a/b/c", "")), rules("-c"), list(dir("a"), dir("a/b")), []string{"a/b"}, steps("N", "Ga", "Na", "Ga/b", "Na/b")},
		{list(dir("a"), file("a/a", ""), file("a/b", ""), file("b", "")), rules("-*", "+a"), list(dir("a"), file("a/a", "")), []string{"", "a"}, steps("N", "Ga", "Na", "Ga/a")},
		{list(dir("a"), file("a/b", "")), rules("-*", "+a"), list(dir("a")), []string{"a"}, steps("N", "Ga", "Na")},
		{list(file("a.o", ""), file("b.o", ""), file("c.o", "")), rules("-*.o"), nil, []string{""}, steps("N")},
		{list(dir("a"), file("a/x.o", ""), dir("b"), dir("c"), dir("c/d"), file("c/d/x.o", ""), file("c/x.o", ""), file("x.o", "")), rules("-*.o"), list(dir("a"), dir("b"), dir("c"), dir("c/d")), []string{"", "a", "c", "c/d"}, steps("N", "Ga", "Na", "Gb", "Nb", "Gc", "Nc", "Gc/d", "Nc/d")},
		{list(dir("a"), link("a/b", "x")), rules("-a/*"), list(dir("a")), []string{"a"}, steps("N", "Ga", "Na")},
	})
}

// P11.1: the house's own directory is not seen and doesn't block the root, whatever it is, and whatever rules say; elsewhere its name is as any other.
func TestOwnUnseen(t *testing.T) {
	own := list(dir(".hawser"), dir(".hawser/d"), file(".hawser/d/x", ""))
	checkScans(t, []scanned{
		{own, nil, nil, nil, steps("N")},
		{own, rules("+**"), nil, nil, steps("N")},
		{own, rules("-**"), nil, nil, steps("N")},
		{own, rules("-.hawser"), nil, nil, steps("N")},
		{list(file(".hawser", "x")), nil, nil, nil, steps("N")},
		{list(link(".hawser", "x")), nil, nil, nil, steps("N")},
		{append(own, file(".hawserx", "")), nil, list(file(".hawserx", "")), nil, steps("N", "G.hawserx")},
		{append(own, file("c.o", "")), rules("-c.o"), nil, []string{""}, steps("N")},
		{list(dir("a"), dir("a/.hawser"), file("a/.hawser/x", "")), nil, list(dir("a"), dir("a/.hawser"), file("a/.hawser/x", "")), nil, steps("N", "Ga", "Na", "Ga/.hawser", "Na/.hawser", "Ga/.hawser/x")},
		{list(dir("a"), dir("a/.hawser")), rules("-.hawser"), list(dir("a")), []string{"a"}, steps("N", "Ga", "Na")},
	})
}

// valued is what a Value at a path of a new disk answers.
type valued struct {
	rules []api.Rule
	path  string
	want  answer
	steps []api.Did
}

// P11.1: Value.
func TestValue(t *testing.T) {
	l := append(some(), dir("g"), dir("g/h"), file("g/h/c.o", ""), dir("i"), dir("i/.hawser"))
	d := with(t, l)
	stamp := func(ino, size int) api.Stamp { return api.Stamp{Ino: ino, Size: size} }
	a := answer{nodes: list(dir(""), file("b", "xyz"), dir("c"), link("c/d", "../b")), stamps: []api.Stamp{stamp(3, 0), stamp(4, 3), stamp(5, 0), stamp(6, 4)}}
	for _, r := range []valued{
		{nil, "f", answer{nodes: list(file("", "u")), stamps: []api.Stamp{stamp(9, 1)}}, steps("Gf")},
		{nil, "a/b", answer{nodes: list(file("", "xyz")), stamps: []api.Stamp{stamp(4, 3)}}, steps("Ga/b")},
		{nil, "a/c/d", answer{nodes: list(link("", "../b")), stamps: []api.Stamp{stamp(6, 4)}}, steps("Ga/c/d")},
		{nil, "e", answer{nodes: list(dir("")), stamps: []api.Stamp{stamp(8, 0)}}, steps("Ge", "Ne")},
		{nil, "a", a, steps("Ga", "Na", "Ga/b", "Ga/c", "Na/c", "Ga/c/d")},
		{nil, "a/c", answer{nodes: list(dir(""), link("d", "../b")), stamps: []api.Stamp{stamp(5, 0), stamp(6, 4)}}, steps("Ga/c", "Na/c", "Ga/c/d")},
		{nil, "i", answer{nodes: list(dir(""), dir(".hawser")), stamps: []api.Stamp{stamp(13, 0), stamp(14, 0)}}, steps("Gi", "Ni", "Gi/.hawser", "Ni/.hawser")},
		{rules("-f"), "a", a, steps("Ga", "Na", "Ga/b", "Ga/c", "Na/c", "Ga/c/d")},
		// Blocked, right in it or deeper.
		{rules("-b"), "a", answer{nodes: list(dir(""), dir("c"), link("c/d", "../b")), stamps: []api.Stamp{stamp(3, 0), stamp(5, 0), stamp(6, 4)}, inside: true}, steps("Ga", "Na", "Ga/c", "Na/c", "Ga/c/d")},
		{rules("-*.o"), "g", answer{nodes: list(dir(""), dir("h")), stamps: []api.Stamp{stamp(10, 0), stamp(11, 0)}, inside: true}, steps("Gg", "Ng", "Gg/h", "Ng/h")},
		{rules("-*.o"), "g/h", answer{nodes: list(dir("")), stamps: []api.Stamp{stamp(11, 0)}, inside: true}, steps("Gg/h", "Ng/h")},
		{rules("-*.o"), "f", answer{nodes: list(file("", "u")), stamps: []api.Stamp{stamp(9, 1)}}, steps("Gf")},
		{rules("-.hawser"), "i", answer{nodes: list(dir("")), stamps: []api.Stamp{stamp(13, 0)}, inside: true}, steps("Gi", "Ni")},
		// Nothing.
		{nil, "q", answer{}, steps("Gq")},
		{nil, "a/q", answer{}, steps("Ga/q")},
		{nil, "q/q", answer{}, steps("Gq/q")},
		{nil, "f/q", answer{}, steps("Gf/q")},
		{nil, "f/q/q", answer{}, steps("Gf/q/q")},
		{nil, "a/c/d/q", answer{}, steps("Ga/c/d/q")},
		{nil, rep("a", 64), answer{}, steps("G" + rep("a", 64))},
	} {
		d.Boot(nil, nil)
		want(t, r, askValue(d, r.rules, r.path), r.want)
		wantSteps(t, r, d, r.steps)
	}
	if !slices.Equal(d.Tree(), l) {
		t.Error(short(d.Tree()))
	}
}

// P11.1: Value of a path that isn't seen asks for nothing, on any disk.
func TestValueUnseen(t *testing.T) {
	l := append(list(file("c.o", "")), some()...)
	slices.SortFunc(l, func(a, b api.Node) int { return strings.Compare(a.Path, b.Path) })
	off := with(t, nil)
	off.Boot([]api.Fate{{What: api.Crash}}, nil)
	off.Flush()
	unseen := []string{"", ".hawser", ".hawser/x", ".hawser/q", "c.o", "q.o", "a/q.o", "c.o/a", "/", "/a", "a/", "a//b", ".", "..", "\xff", "a\x00", rep("a", 65), rep("/a", 17)[1:], rep("a", 1<<20)}
	for _, d := range []*disk.Disk{with(t, some()), off, nil} {
		before := d.Steps()
		for _, p := range unseen {
			want(t, p, askValue(d, rules("-*.o"), p), answer{err: api.ErrPath})
		}
		if d.Steps() != before {
			t.Error(d.Trace())
		}
	}
}

// P11.1: a disk that is off, or none.
func TestOff(t *testing.T) {
	off := booted(t, some(), []api.Fate{{What: api.Crash}})
	off.Flush()
	for _, d := range []*disk.Disk{off, nil} {
		before := d.Steps()
		want(t, "Scan", askScan(d, nil), answer{err: api.ErrOff})
		want(t, "Scan", askScan(d, rules("-**")), answer{err: api.ErrOff})
		want(t, "Value", askValue(d, nil, "a"), answer{err: api.ErrOff})
		want(t, "Value", askValue(d, nil, "q"), answer{err: api.ErrOff})
		want(t, "Prints", askPrints(d, nil, api.Archive{}, false), answer{err: api.ErrOff})
		want(t, "Prints", askPrints(d, nil, archive(t, some()), true), answer{err: api.ErrOff})
		if d.Steps() != before {
			t.Error(d.Trace())
		}
	}
}

// P11.1: each fate at each step: its error alone, and no step behind it; of no room a walk knows nothing.
func TestFates(t *testing.T) {
	r := rules("-b")
	for what, e := range map[int]api.Errno{api.Fail: api.ErrIO, api.Crash: api.ErrOff, api.Full: 0, 4: 0} {
		for name, ask := range map[string]func(*disk.Disk) answer{
			"Scan":   func(d *disk.Disk) answer { return askScan(d, r) },
			"Value":  func(d *disk.Disk) answer { return askValue(d, r, "a") },
			"Prints": func(d *disk.Disk) answer { return askPrints(d, r, api.Archive{}, false) },
			"fast":   func(d *disk.Disk) answer { return askPrints(d, r, archive(t, some()), true) },
		} {
			whole := with(t, some())
			all := ask(whole)
			for at := range whole.Steps() + 1 {
				d := booted(t, some(), []api.Fate{{At: at, What: what}})
				asked := fmt.Sprintf("%s with the fate %d at %d", name, what, at)
				if e != api.OK && at < whole.Steps() {
					want(t, asked, ask(d), answer{err: e})
					wantSteps(t, asked, d, whole.Trace()[:at+1])
				} else {
					want(t, asked, ask(d), all)
					wantSteps(t, asked, d, whole.Trace())
				}
			}
		}
	}
}

// edited is what a Scan answers while a user is at work.
type edited struct {
	edit  api.Edit
	nodes []string // the paths
	block []string
	err   api.Errno
	steps []api.Did
}

// P11.1: what a user does between two steps of a Scan.
func TestEdits(t *testing.T) {
	l := list(dir("a"), file("a/b", "x"), file("c", "y"))
	steps5 := steps("N", "Ga", "Na", "Ga/b", "Gc")
	for _, x := range []edited{
		{api.Edit{At: 0, Path: "a"}, []string{"c"}, nil, 0, steps("N", "Gc")},
		{api.Edit{At: 1, Path: "a"}, nil, nil, api.ErrGone, steps5[:2]},
		{api.Edit{At: 2, Path: "a"}, nil, nil, api.ErrGone, steps5[:3]},
		{api.Edit{At: 3, Path: "a"}, nil, nil, api.ErrGone, steps5[:4]},
		{api.Edit{At: 4, Path: "a"}, []string{"a", "a/b", "c"}, nil, 0, steps5},
		{api.Edit{At: 4, Path: "c"}, nil, nil, api.ErrGone, steps5},
		{api.Edit{At: 1, Path: "a", Value: list(file("", "z"))}, []string{"a", "c"}, nil, 0, steps("N", "Ga", "Gc")},
		{api.Edit{At: 2, Path: "a", Value: list(file("", "z"))}, nil, nil, api.ErrKind, steps5[:3]},
		{api.Edit{At: 1, Path: "c", Value: list(dir(""), file("d", ""))}, []string{"a", "a/b", "c", "c/d"}, nil, 0, steps("N", "Ga", "Na", "Ga/b", "Gc", "Nc", "Gc/d")},
		{api.Edit{At: 2, Path: "a", Value: list(dir(""), file("d", ""), file("x.o", ""))}, []string{"a", "a/d", "c"}, []string{"a"}, 0, steps("N", "Ga", "Na", "Ga/d", "Gc")},
		{api.Edit{At: 3, Path: "a/x.o", Value: list(file("", ""))}, []string{"a", "a/b", "c"}, nil, 0, steps5},
		{api.Edit{At: 1, Path: "d", Value: list(file("", ""))}, []string{"a", "a/b", "c"}, nil, 0, steps5},
		{api.Edit{At: 0, Path: "d.o", Value: list(file("", ""))}, []string{"a", "a/b", "c"}, []string{""}, 0, steps5},
	} {
		d := booted(t, l, nil, x.edit)
		got := askScan(d, rules("-*.o"))
		var paths []string
		for _, n := range got.nodes {
			paths = append(paths, n.Path)
		}
		if !slices.Equal(paths, x.nodes) || len(got.stamps) != len(paths) || !slices.Equal(got.blocked, x.block) || got.err != x.err {
			t.Errorf("with %v the Scan is %v", x.edit, got)
		}
		wantSteps(t, x.edit, d, x.steps)
	}
}

// P11.1: what a user does between two steps of a Value: just what is gone ahead of its first step is nothing.
func TestValueEdits(t *testing.T) {
	l := list(dir("a"), file("a/b", "x"), dir("a/c"))
	all := steps("Ga", "Na", "Ga/b", "Ga/c", "Na/c")
	for _, x := range []struct {
		edit  api.Edit
		nodes int
		err   api.Errno
		steps int
	}{
		{api.Edit{At: 0, Path: "a"}, 0, 0, 1},
		{api.Edit{At: 1, Path: "a"}, 0, api.ErrGone, 2},
		{api.Edit{At: 1, Path: "a", Value: list(file("", ""))}, 0, api.ErrKind, 2},
		{api.Edit{At: 2, Path: "a/b"}, 0, api.ErrGone, 3},
		{api.Edit{At: 3, Path: "a/b"}, 3, 0, 5},
		{api.Edit{At: 4, Path: "a/c"}, 0, api.ErrGone, 5},
		{api.Edit{At: 4, Path: "a/c", Value: list(link("", "x"))}, 0, api.ErrKind, 5},
		{api.Edit{At: 5, Path: "a"}, 3, 0, 5},
	} {
		d := booted(t, l, nil, x.edit)
		if got := askValue(d, nil, "a"); len(got.nodes) != x.nodes || len(got.stamps) != x.nodes || got.inside || got.err != x.err {
			t.Errorf("with %v the Value is %v", x.edit, got)
		}
		wantSteps(t, x.edit, d, all[:x.steps])
	}
}

// P11.1: where a user changes the disk between two steps, what was seen may be more than a tree: it is answered all the same.
func TestMoreThanATree(t *testing.T) {
	full := func(at string) []api.Node {
		all := list(dir(at))
		for _, n := range wide(998) {
			all = append(all, file(strings.TrimPrefix(at+"/"+n.Path, "/"), at))
		}
		return all
	}
	ahead := 1002 // of the Names of b
	edits := []api.Edit{{At: ahead, Path: "a"}, {At: ahead, Path: "b", Value: full("")}}
	l := append(full("a"), dir("b"))
	got := askScan(booted(t, l, nil, edits...), nil)
	bare := askPrints(booted(t, l, nil, edits...), nil, archive(t, l), false)
	if len(got.nodes) != 1998 || len(got.stamps) != 1998 || got.err != api.OK || got.nodes[1997].Path != "b/1997" {
		t.Error(short(got))
	}
	got.nodes = slowBare(got.nodes)
	want(t, "Prints", bare, got)
}

// archive is a right one that tells of a new disk with this tree.
func archive(t testing.TB, l []api.Node) api.Archive {
	t.Helper()
	p := askPrints(with(t, l), nil, api.Archive{}, false)
	return api.Archive{Pair: "p", Tree: p.nodes, Stamps: p.stamps}
}

// faked is that archive with fingerprints that no data have.
func faked(t testing.TB, l []api.Node) api.Archive {
	t.Helper()
	a := archive(t, l)
	for i, n := range a.Tree {
		if n.Kind != api.Dir {
			a.Tree[i].Data = fake()
		}
	}
	return a
}

// P11.1: which fingerprints are taken from an archive, told by fakes.
func TestFast(t *testing.T) {
	l := list(dir("a"), file("a/b", "xyz"), link("a/c", "to"), file("d", ""))
	for _, x := range []struct {
		change func(*api.Archive)
		fast   bool
		faked  []string
	}{
		{func(a *api.Archive) {}, true, []string{"a/b", "a/c", "d"}},
		{func(a *api.Archive) {}, false, nil},
		// Another stamp, each of its numbers.
		{func(a *api.Archive) { a.Stamps[1].Ino++ }, true, []string{"a/c", "d"}},
		{func(a *api.Archive) { a.Stamps[1].Size++ }, true, []string{"a/c", "d"}},
		{func(a *api.Archive) { a.Stamps[1].Time++ }, true, []string{"a/c", "d"}},
		{func(a *api.Archive) { a.Stamps[2].Time++ }, true, []string{"a/b", "d"}},
		{func(a *api.Archive) { a.Stamps[0].Time++ }, true, []string{"a/b", "a/c", "d"}},
		{func(a *api.Archive) { a.Stamps[1], a.Stamps[3] = a.Stamps[3], a.Stamps[1] }, true, []string{"a/c"}},
		// Another mode, another kind.
		{func(a *api.Archive) { a.Tree[1].Mode = 421 }, true, []string{"a/c", "d"}},
		{func(a *api.Archive) { a.Tree[1].Mode, a.Tree[1].Kind = 0, api.Link }, true, []string{"a/c", "d"}},
		{func(a *api.Archive) { a.Tree[2].Kind = api.File }, true, []string{"a/b", "d"}},
		{func(a *api.Archive) { a.Tree[3] = dir("d") }, true, []string{"a/b", "a/c"}},
		{func(a *api.Archive) { a.Tree[0] = file("a", fake()) }, true, nil},
		// Another path.
		{func(a *api.Archive) { a.Tree[3].Path = "e" }, true, []string{"a/b", "a/c"}},
		{func(a *api.Archive) { a.Tree[1].Path = "a/a" }, true, []string{"a/c", "d"}},
		{func(a *api.Archive) { a.Tree, a.Stamps = a.Tree[3:], a.Stamps[3:] }, true, []string{"d"}},
		{func(a *api.Archive) { a.Tree, a.Stamps = a.Tree[:2], a.Stamps[:2] }, true, []string{"a/b"}},
		{func(a *api.Archive) { a.Tree, a.Stamps = nil, nil }, true, nil},
		// Archives that aren't right know nothing.
		{func(a *api.Archive) { a.Pair = "" }, true, nil},
		{func(a *api.Archive) { a.Pair = rep("p", 65) }, true, nil},
		{func(a *api.Archive) { a.Serial = -1 }, true, nil},
		{func(a *api.Archive) { a.Stamps = a.Stamps[:3] }, true, nil},
		{func(a *api.Archive) { a.Stamps = append(a.Stamps, api.Stamp{}) }, true, nil},
		{func(a *api.Archive) { a.Stamps[0].Ino = -1 }, true, nil},
		{func(a *api.Archive) { a.Tree[3].Data = "xyz" }, true, nil},
		{func(a *api.Archive) { a.Tree[0].Data = fake() }, true, nil},
		{func(a *api.Archive) { slices.Reverse(a.Tree); slices.Reverse(a.Stamps) }, true, nil},
		{func(a *api.Archive) { a.Serial, a.Pair = 1<<62, rep("p", 64) }, true, []string{"a/b", "a/c", "d"}},
	} {
		a := faked(t, l)
		x.change(&a)
		d := with(t, l)
		got := askPrints(d, nil, a, x.fast)
		all := slowScan(with(t, l), nil)
		all.nodes = slowBare(all.nodes)
		for i, n := range all.nodes {
			if slices.Contains(x.faked, n.Path) {
				all.nodes[i].Data = fake()
			}
		}
		want(t, a, got, all)
		wantSteps(t, a, d, steps("N", "Ga", "Na", "Ga/b", "Ga/c", "Gd"))
	}
}

// P11.1: what was done to a file since tells whether its fingerprint is still known.
func TestFastSince(t *testing.T) {
	l := list(file("a", "x"), file("b", "y"), dir("c"))
	none := []string{}
	for _, x := range []struct {
		since func(*disk.Disk)
		faked []string
	}{
		{func(d *disk.Disk) {}, []string{"a", "b"}},
		{func(d *disk.Disk) { d.Sync("a"); d.Flush(); d.Get("b") }, []string{"a", "b"}},
		{func(d *disk.Disk) { d.Write("a", "y", 420) }, []string{"b"}},
		{func(d *disk.Disk) { d.Write("a", "x", 420) }, []string{"b"}},
		{func(d *disk.Disk) { d.Replace("a", "b") }, none},
		{func(d *disk.Disk) { d.Move("a", "d") }, []string{"b"}},
		{func(d *disk.Disk) { d.Move("a", "d"); d.Move("d", "a") }, []string{"a", "b"}},
		{func(d *disk.Disk) { d.Move("b", "c/b") }, []string{"a"}},
		{func(d *disk.Disk) { d.Remove("a"); d.Write("a", "x", 420) }, []string{"b"}},
		{func(d *disk.Disk) { d.Remove("a"); d.Mkdir("a") }, []string{"b"}},
		{func(d *disk.Disk) { d.Boot(nil, []api.Edit{{Path: "a", Value: list(file("", "x"))}}); d.Flush() }, []string{"b"}},
		{func(d *disk.Disk) { d.Boot([]api.Fate{{What: api.Crash}}, nil); d.Flush(); d.Boot(nil, nil) }, []string{"a", "b"}},
	} {
		d := with(t, l)
		x.since(d)
		got := askPrints(d, nil, faked(t, l), true)
		for _, n := range got.nodes {
			if n.Kind != api.Dir && (n.Data == fake()) != slices.Contains(x.faked, n.Path) {
				t.Errorf("%v, not those of %v", got.nodes, x.faked)
			}
		}
	}
}

// anyName is one of a few that the rules tell apart.
func anyName(dice *rand.Rand) string {
	return []string{"a", "b", "c", "a.b", "x.o", ".hawser", "é"}[dice.Intn(7)]
}

// anyPath has one name to four.
func anyPath(dice *rand.Rand) string {
	p := anyName(dice)
	for dice.Intn(2) == 0 && strings.Count(p, "/") < 3 {
		p += "/" + anyName(dice)
	}
	return p
}

// anyValue is nothing, a file, a link or a directory with something in it.
func anyValue(dice *rand.Rand) []api.Node {
	data := []string{"", "x", "y", "xyz"}[dice.Intn(4)]
	switch dice.Intn(5) {
	case 0:
		return nil
	case 1:
		return list(link("", "to"+data))
	case 2, 3:
		return append(list(dir("")), anyTree(dice, 3)...)
	}
	return list(api.Node{Kind: api.File, Data: data, Mode: dice.Intn(512)})
}

// anyTree is made of at most so many values.
func anyTree(dice *rand.Rand, count int) []api.Node {
	var t []api.Node
	for range dice.Intn(count + 1) {
		u, e := tree.Put(t, anyPath(dice), anyValue(dice))
		if e == api.OK {
			t = u
		}
	}
	return t
}

// anyRules are a few.
func anyRules(dice *rand.Rand) []api.Rule {
	var all []api.Rule
	for range dice.Intn(4) {
		pattern := []string{"*.o", "a", "a/*", "**/b", "a/**/c", "*", ".hawser", "[ab]", "c/b", "é", "x.o/a", "a/", "["}[dice.Intn(13)]
		all = append(all, api.Rule{Ignore: dice.Intn(3) > 0, Pattern: pattern})
	}
	return all
}

// anyFates are some of the first few steps.
func anyFates(dice *rand.Rand) []api.Fate {
	var all []api.Fate
	for range dice.Intn(3) {
		all = append(all, api.Fate{At: dice.Intn(20), What: dice.Intn(5), Keep: dice.Intn(6) - 1, Torn: dice.Intn(4) - 1})
	}
	return all
}

// anyEdits are some ahead of the first few steps.
func anyEdits(dice *rand.Rand) []api.Edit {
	var all []api.Edit
	for range dice.Intn(4) {
		all = append(all, api.Edit{At: dice.Intn(12), Path: anyPath(dice), Value: anyValue(dice)})
	}
	return all
}

// P11.1: any calls on disks with any fates and edits, against the steps that the chapter tells, on a disk that is its twin.
func TestAnyCalls(t *testing.T) {
	dice := rand.New(rand.NewSource(11))
	answers := map[api.Errno]int{}
	for range 20000 {
		l := anyTree(dice, 8)
		d, twin := with(t, l), with(t, l)
		fates, edits, r := anyFates(dice), anyEdits(dice), anyRules(dice)
		d.Boot(fates, edits)
		twin.Boot(fates, edits)
		for range 2 {
			path := append(list(file(anyPath(dice), "")), l...)[dice.Intn(len(l)+1)].Path
			var got, all answer
			switch dice.Intn(4) {
			case 0:
				got, all = askScan(d, r), slowScan(twin, r)
			case 1:
				got, all = askPrints(d, r, faked(t, l), true), slowKnown(twin, r, faked(t, l))
			case 2:
				got, all = askPrints(d, r, faked(t, l), false), slowKnown(twin, r, api.Archive{})
			default:
				got, all = askValue(d, r, path), slowValue(twin, r, path)
			}
			answers[got.err]++
			if !got.same(all) || !slices.Equal(d.Trace(), twin.Trace()) || !slices.Equal(d.Tree(), twin.Tree()) {
				t.Fatalf("of %v with %v, %v by %v at %q: %v, not %v", l, fates, edits, r, path, got, all)
			}
		}
	}
	for _, e := range []api.Errno{0, api.ErrPath, api.ErrIO, api.ErrKind, api.ErrGone, api.ErrOff} {
		if answers[e] < 20 {
			t.Errorf("%d calls answer %d", answers[e], e)
		}
	}
}

// P11.2: of a quiet disk Scan's tree is its own without what isn't seen, and the disk stays as it is.
func TestQuiet(t *testing.T) {
	dice := rand.New(rand.NewSource(112))
	for range 5000 {
		l, r := anyTree(dice, 12), anyRules(dice)
		d := with(t, l)
		all, steps := slowQuiet(l, r)
		all.stamps = stampsOf(l, all.nodes)
		got := askScan(d, r)
		want(t, r, got, all)
		wantSteps(t, r, d, steps)
		if !slices.Equal(d.Tree(), l) || tree.Check(got.nodes) != api.OK {
			t.Fatalf("a Scan by %v leaves %v", r, d.Tree())
		}
		all.nodes = slowBare(all.nodes)
		want(t, r, askPrints(d, r, api.Archive{}, false), all)
		if !slices.Equal(d.Tree(), l) {
			t.Fatalf("Prints by %v leaves %v", r, d.Tree())
		}
		// Nothing that isn't safe is left either.
		d.Boot([]api.Fate{{What: api.Crash}}, nil)
		d.Flush()
		if !slices.Equal(d.Tree(), l) {
			t.Fatalf("behind a crash there is %v", d.Tree())
		}
	}
}

// P11.2: a Value on a quiet disk is that of Scan's tree, and blocked if a directory in it is.
func TestQuietValue(t *testing.T) {
	dice := rand.New(rand.NewSource(1122))
	for range 5000 {
		l, r := anyTree(dice, 12), anyRules(dice)
		d := with(t, l)
		all := askScan(d, r)
		for _, n := range append(list(file(anyPath(dice), "")), l...) {
			got := askValue(d, r, n.Path)
			if !scan.Seen(r, n.Path) {
				want(t, n.Path, got, answer{err: api.ErrPath})
				continue
			}
			inside := slices.ContainsFunc(all.blocked, func(b string) bool { return b == n.Path || strings.HasPrefix(b, n.Path+"/") })
			if !slices.Equal(got.nodes, tree.At(all.nodes, n.Path)) || !tree.Right(got.nodes) || got.inside != inside || got.err != api.OK {
				t.Fatalf("of %v by %v the Value at %q is %v", l, r, n.Path, got)
			}
		}
	}
}

// anyChange is one call, or a crash, or what a user does.
func anyChange(dice *rand.Rand, d *disk.Disk) {
	p, q := anyPath(dice), anyPath(dice)
	data := []string{"", "x", "y", "xyz", "xyzzy"}[dice.Intn(5)]
	switch dice.Intn(10) {
	case 0, 1, 2:
		d.Write(p, data, 420+dice.Intn(2))
	case 3:
		d.Mkdir(p)
	case 4:
		d.Link(p, "to"+data)
	case 5:
		d.Remove(p)
	case 6:
		d.Move(p, q)
	case 7:
		d.Replace(p, q)
	case 8:
		d.Sync(p)
		d.Flush()
	default:
		f := api.Fate{At: dice.Intn(2), What: api.Crash, Keep: dice.Intn(8), Torn: dice.Intn(4)}
		d.Boot([]api.Fate{f}, []api.Edit{{At: 0, Path: p, Value: anyValue(dice)}})
		d.Write(p, data, 420)
		d.Flush()
	}
}

// P11.3: with an archive of what Prints once answered of a disk, whatever was done to that since, fast or not is the same.
func TestFastIsTrue(t *testing.T) {
	dice := rand.New(rand.NewSource(113))
	known := 0
	for range 3000 {
		d := with(t, anyTree(dice, 8))
		a := api.Archive{Pair: "p"}
		for range 4 {
			// The archive may be of a Prints in whose middle the user was at work.
			d.Boot(nil, anyEdits(dice))
			p := askPrints(d, anyRules(dice), a, dice.Intn(2) == 0)
			if p.err == api.OK {
				a.Tree, a.Stamps = p.nodes, p.stamps
			}
			for range dice.Intn(6) {
				anyChange(dice, d)
			}
			d.Boot(nil, nil)
			r := anyRules(dice)
			slow, fast := askPrints(d, r, a, false), askPrints(d, r, a, true)
			want(t, a, fast, slow)
			scanned := askScan(d, r)
			scanned.nodes = slowBare(scanned.nodes)
			want(t, a, slow, scanned)
			known += knownFiles(a, fast)
		}
	}
	if known < 1000 {
		t.Errorf("%d fingerprints were known", known)
	}
}

// knownFiles tells how many files' fingerprints the archive, if it is right, knows of what was answered.
func knownFiles(a api.Archive, p answer) int {
	count := 0
	for i, n := range p.nodes {
		at := slices.Index(a.Tree, n)
		if n.Kind != api.Dir && at >= 0 && a.Stamps[at] == p.stamps[i] && arch.Check(a) == api.OK {
			count++
		}
	}
	return count
}

// R4: what is handed in stays, the room behind it too, and is not kept; answers are new memory.
func TestMemory(t *testing.T) {
	d := with(t, some())
	r, a := slices.Grow(rules("-x", "-*.o"), 8), archive(t, some())
	spare := r[:8]
	spare[7].Pattern = "spare"
	before, beforeTree, beforeStamps := slices.Clone(spare), slices.Clone(a.Tree), slices.Clone(a.Stamps)
	first := []answer{askScan(d, r), askPrints(d, r, a, true), askPrints(d, r, a, false), askValue(d, r, "a")}
	if !slices.Equal(spare, before) || !slices.Equal(a.Tree, beforeTree) || !slices.Equal(a.Stamps, beforeStamps) {
		t.Error("what was handed in has changed")
	}
	kept := make([]answer, len(first))
	for i, x := range first {
		kept[i] = answer{slices.Clone(x.nodes), slices.Clone(x.stamps), slices.Clone(x.blocked), x.inside, x.err}
		for j := range x.nodes {
			x.nodes[j], x.stamps[j] = file("mine", "mine"), api.Stamp{Ino: -1}
		}
		_ = append(x.nodes, file("mine", "mine"))
		_ = append(x.stamps, api.Stamp{})
		_ = append(x.blocked, "mine")
	}
	if !slices.Equal(a.Tree, beforeTree) || !slices.Equal(a.Stamps, beforeStamps) || !slices.Equal(d.Tree(), some()) {
		t.Error("an answer shares memory with what was handed in")
	}
	for i, got := range []answer{askScan(d, r), askPrints(d, r, a, true), askPrints(d, r, a, false), askValue(d, r, "a")} {
		want(t, i, got, kept[i])
	}
}

// The chapter's example.
func TestExample(t *testing.T) {
	l := list(dir(".hawser"), file(".hawser/x", ""), dir("a"), file("a/b", ""), file("c.o", ""))
	checkScans(t, []scanned{{l, rules("-*.o"), list(dir("a"), file("a/b", "")), []string{""}, steps("N", "Ga", "Na", "Ga/b")}})
}
