package disk_test

import (
	"fmt"
	"math"
	"math/rand"
	"slices"
	"strconv"
	"strings"
	"testing"

	"hawser/api"
	"hawser/disk"
	"hawser/tree"
)

func dir(path string) api.Node { return api.Node{Path: path, Kind: api.Dir} }
func file(path, data string) api.Node {
	return api.Node{Path: path, Kind: api.File, Data: data, Mode: 420}
}
func link(path, to string) api.Node     { return api.Node{Path: path, Kind: api.Link, Data: to} }
func list(nodes ...api.Node) []api.Node { return nodes }
func long(n int) string                 { return strings.Repeat("a", n) }

// some is a tree with all kinds: its inodes are 1 to 7.
func some() []api.Node {
	return list(dir("a"), file("a/b", "xyz"), dir("a/c"), link("a/c/d", "../b"), file("a.b", ""), dir("e"), file("f", "u"))
}

// with is a disk that has this tree.
func with(t testing.TB, l []api.Node) *disk.Disk {
	t.Helper()
	d, e := disk.New(l)
	if e != api.OK || d == nil {
		t.Fatalf("New is %v, %d", d, e)
	}
	return d
}

// booted is a disk that has this tree, these fates and these edits.
func booted(t testing.TB, l []api.Node, fates []api.Fate, edits ...api.Edit) *disk.Disk {
	t.Helper()
	d := with(t, l)
	d.Boot(fates, edits)
	return d
}

// told is the beginning of a list, for messages.
func told(l []api.Node) string {
	var b strings.Builder
	for _, n := range l[:min(len(l), 25)] {
		fmt.Fprintf(&b, "{%.80q %d %.20q %d}", n.Path, n.Kind, n.Data, n.Mode)
	}
	return b.String()
}

// wide is a tree of n files in the root (n up to 9000).
func wide(n int) []api.Node {
	var t []api.Node
	for i := range n {
		t = append(t, file(strconv.Itoa(1000+i), "x"))
	}
	return t
}

// deep is a tree of n directories, each within the one ahead of it.
func deep(n int, name string) []api.Node {
	var t []api.Node
	for i := range n {
		t = append(t, dir(strings.Repeat("/"+name, i+1)[1:]))
	}
	return t
}

// wantTree holds the disk's tree against one.
func wantTree(t *testing.T, d *disk.Disk, want []api.Node) {
	t.Helper()
	if got := d.Tree(); !slices.Equal(got, want) || tree.Check(got) != api.OK {
		t.Fatalf("the tree is %s, not %s", told(got), told(want))
	}
}

// wantErr holds an error against another one.
func wantErr(t *testing.T, got, want api.Errno) {
	t.Helper()
	if got != want {
		t.Fatalf("the error is %d, not %d", got, want)
	}
}

// wantStamp asks for the stamp of what is at a path.
func wantStamp(t *testing.T, d *disk.Disk, path string, want api.Stamp) {
	t.Helper()
	_, got, e := d.Get(path)
	if e != api.OK || got != want {
		t.Fatalf("the stamp of %q is %v, %d, not %v", path, got, e, want)
	}
}

// crashed crashes the disk at its next step, and boots it.
func crashed(t *testing.T, d *disk.Disk, keep, torn int) {
	t.Helper()
	d.Boot([]api.Fate{{At: 0, What: api.Crash, Keep: keep, Torn: torn}}, nil)
	wantErr(t, d.Flush(), api.ErrOff)
	d.Boot(nil, nil)
}

// P7.1: New.
func TestNew(t *testing.T) {
	for _, l := range [][]api.Node{nil, {}, some(), wide(1000), deep(16, "a"), list(file("a", strings.Repeat("x", 65536)))} {
		d := with(t, l)
		wantTree(t, d, l)
		if !d.On() || d.Steps() != 0 || len(d.Trace()) != 0 {
			t.Fatalf("a new disk is on %v, with %d steps", d.On(), d.Steps())
		}
		for i, n := range l {
			wantStamp(t, d, n.Path, api.Stamp{Ino: i + 1, Size: len(n.Data)})
		}
		crashed(t, d, 0, 0)
		wantTree(t, d, l)
	}
	wrong := [][]api.Node{list(dir("")), list(file("b", ""), file("a", "")), list(file("a/b", "")), list(file("a", ""), file("a", "")), list(api.Node{Path: "a"}), list(link("a", "")), list(file("a", strings.Repeat("x", 65537))), wide(1001), deep(17, "a"), make([]api.Node, 1<<20)}
	for _, l := range wrong {
		if d, e := disk.New(l); d != nil || e != api.ErrTree {
			t.Errorf("New(%s) is %v, %d", told(l), d, e)
		}
	}
}

// row is a call on a disk with the tree of some, its error, and, if there is none, what stands there then.
type row struct {
	q    asked
	err  api.Errno
	want []api.Node
}

// check makes the calls of the rows, each on a disk of its own.
func check(t *testing.T, rows []row) {
	t.Helper()
	for _, r := range rows {
		d := with(t, some())
		before := d.Tree()
		got := ask(d, r.q)
		want := r.want
		if r.err != api.OK {
			want = before
		}
		if got != (answer{err: r.err}) || !slices.Equal(d.Tree(), want) {
			t.Errorf("%.80v is %v, and leaves %s", r.q, got, told(d.Tree()))
		}
		if d.Steps() != 1 || !d.On() {
			t.Errorf("%.80v is %d steps", r.q, d.Steps())
		}
	}
}

// instead is the tree of some with other nodes in the place of what is within some paths.
func instead(t *testing.T, nodes []api.Node, paths ...string) []api.Node {
	t.Helper()
	u := some()
	for _, p := range paths {
		u = slices.DeleteFunc(u, func(n api.Node) bool { return slowWithin(n.Path, p) })
	}
	u = append(u, nodes...)
	slices.SortFunc(u, func(a, b api.Node) int {
		if slowAhead(a.Path, b.Path) {
			return -1
		}
		return 1
	})
	return u
}

// noPaths are none.
func noPaths() []string {
	return []string{"", "/", "/a", "a/", "a//b", ".", "..", "a/..", "x\x00", "\xff", "q/\xff", long(65), strings.Repeat("/a", 17)[1:], strings.Repeat("/"+long(64), 7)[1:], long(1 << 20)}
}

// P7.1: Write.
func TestWrite(t *testing.T) {
	big := strings.Repeat("x", 65536)
	write := func(path, data string, mode int) asked {
		return asked{call: "Write", path: path, data: data, mode: mode}
	}
	node := func(path, data string, mode int) api.Node {
		return api.Node{Path: path, Kind: 1, Data: data, Mode: mode}
	}
	rows := []row{
		{write("b", "u", 0), 0, instead(t, list(node("b", "u", 0)))},
		{write("a/a", "\x00\xff", 511), 0, instead(t, list(node("a/a", "\x00\xff", 511)))},
		{write("a/c/e", big, 1), 0, instead(t, list(node("a/c/e", big, 1)))},
		{write("a/b", "", 7), 0, instead(t, list(node("a/b", "", 7)), "a/b")},
		{write("f", big, 420), 0, instead(t, list(file("f", big)), "f")},
		{write(long(64), "", 420), 0, instead(t, list(file(long(64), "")))},
		{write("b", "", -1), 2, nil}, {write("b", "", 512), 2, nil}, {write("b", "", math.MaxInt), 2, nil}, {write("b", "", math.MinInt), 2, nil}, {write("b", big+"x", 0), 2, nil}, {write("f", big+"x", 0), 2, nil}, {write("f", "", 512), 2, nil},
		{write("b/c", "", 0), 62, nil}, {write("f/c", "", 0), 62, nil}, {write("a/c/d/e", "", 0), 62, nil}, {write("a/b/c/d", "", 0), 62, nil},
		{write("a", "", 0), 73, nil}, {write("a/c", "", 0), 73, nil}, {write("e", "", 0), 73, nil}, {write("a/c/d", "", 0), 73, nil},
		{write("q/\xff", "", 512), 11, nil}, {write("b/c", "", 512), 2, nil}, {write("a", "", 512), 2, nil}, {write("a/c/d", big+"x", 0), 2, nil},
	}
	for _, p := range noPaths() {
		rows = append(rows, row{write(p, "", 0), 11, nil})
	}
	check(t, rows)
}

// P7.1: Mkdir and Link.
func TestMkdirAndLink(t *testing.T) {
	mkdir := func(path string) asked { return asked{call: "Mkdir", path: path} }
	lead := func(path, to string) asked { return asked{call: "Link", path: path, to: to} }
	rows := []row{
		{mkdir("b"), 0, instead(t, list(dir("b")))}, {mkdir("a/c/e"), 0, instead(t, list(dir("a/c/e")))}, {mkdir("e/e"), 0, instead(t, list(dir("e/e")))},
		{mkdir("b/c"), 62, nil}, {mkdir("f/c"), 62, nil}, {mkdir("a/c/d/e"), 62, nil},
		{mkdir("a"), 72, nil}, {mkdir("f"), 72, nil}, {mkdir("a/c/d"), 72, nil},
		{lead("b", "x"), 0, instead(t, list(link("b", "x")))}, {lead("a/a", "\xff/../\n"), 0, instead(t, list(link("a/a", "\xff/../\n")))}, {lead("e/x", long(400)), 0, instead(t, list(link("e/x", long(400))))},
		{lead("b", ""), 2, nil}, {lead("b", "\x00"), 2, nil}, {lead("b", "a\x00b"), 2, nil}, {lead("b", long(401)), 2, nil}, {lead("b", long(1<<20)), 2, nil},
		{lead("b/c", "x"), 62, nil}, {lead("f/c", "x"), 62, nil}, {lead("a/c/d/e", "x"), 62, nil},
		{lead("a", "x"), 72, nil}, {lead("f", "x"), 72, nil}, {lead("a/c/d", "x"), 72, nil},
		{lead("..", ""), 11, nil}, {lead("b/c", ""), 2, nil}, {lead("a", ""), 2, nil},
	}
	for _, p := range noPaths() {
		rows = append(rows, row{mkdir(p), 11, nil}, row{lead(p, "x"), 11, nil})
	}
	check(t, rows)
}

// P7.1: Remove and Sync.
func TestRemoveAndSync(t *testing.T) {
	remove := func(path string) asked { return asked{call: "Remove", path: path} }
	sync := func(path string) asked { return asked{call: "Sync", path: path} }
	rows := []row{
		{remove("f"), 0, instead(t, nil, "f")}, {remove("a/c/d"), 0, instead(t, nil, "a/c/d")}, {remove("e"), 0, instead(t, nil, "e")}, {remove("a/b"), 0, instead(t, nil, "a/b")},
		{remove("b"), 74, nil}, {remove("a/b/c"), 74, nil}, {remove("q/r"), 74, nil}, {remove("a/"), 11, nil},
		{remove("a"), 72, nil}, {remove("a/c"), 72, nil},
		{sync("f"), 0, some()}, {sync("a"), 0, some()}, {sync("a/c/d"), 0, some()},
		{sync("b"), 74, nil}, {sync("f/x"), 74, nil}, {sync("q/r"), 74, nil},
	}
	for _, p := range noPaths() {
		rows = append(rows, row{remove(p), 11, nil}, row{sync(p), 11, nil})
	}
	check(t, rows)
}

// P7.1: Move.
func TestMove(t *testing.T) {
	move := func(path, to string) asked { return asked{call: "Move", path: path, to: to} }
	rows := []row{
		{move("f", "b"), 0, instead(t, list(file("b", "u")), "f")},
		{move("f", "a/f"), 0, instead(t, list(file("a/f", "u")), "f")},
		{move("a", "b"), 0, instead(t, list(dir("b"), file("b/b", "xyz"), dir("b/c"), link("b/c/d", "../b")), "a")},
		{move("a/c", "c"), 0, instead(t, list(dir("c"), link("c/d", "../b")), "a/c")},
		{move("a/c", "a/b.c"), 0, instead(t, list(dir("a/b.c"), link("a/b.c/d", "../b")), "a/c")},
		{move("a", "e/a"), 0, instead(t, list(dir("e/a"), file("e/a/b", "xyz"), dir("e/a/c"), link("e/a/c/d", "../b")), "a")},
		{move("a/c/d", "d"), 0, instead(t, list(link("d", "../b")), "a/c/d")},
		{move("a", "aa"), 0, instead(t, list(dir("aa"), file("aa/b", "xyz"), dir("aa/c"), link("aa/c/d", "../b")), "a")},
		{move("a", "a"), 2, nil}, {move("a", "a/d"), 2, nil}, {move("a", "a/b"), 2, nil}, {move("f", "f/x"), 2, nil}, {move("q", "q"), 2, nil}, {move("q", "q/r/s"), 2, nil},
		{move("b", "c"), 74, nil}, {move("b", "f"), 74, nil}, {move("b", "q/r"), 74, nil}, {move("f/x", "y"), 74, nil},
		{move("f", "a"), 72, nil}, {move("f", "a/b"), 72, nil}, {move("a/c", "a"), 72, nil}, {move("a", "e"), 72, nil}, {move("a.b", "a/c/d"), 72, nil},
		{move("f", "b/c"), 62, nil}, {move("a", "f/x"), 62, nil}, {move("f", "a/c/d/x"), 62, nil},
		{move("q", ".."), 11, nil}, {move("a", "a/.."), 11, nil}, {move("", ""), 11, nil},
	}
	for _, p := range noPaths() {
		rows = append(rows, row{move(p, "b"), 11, nil}, row{move("f", p), 11, nil}, row{move(p, p), 11, nil})
	}
	check(t, rows)
}

// P7.1: Move where a path below would be none, or just is one.
func TestMoveTooFar(t *testing.T) {
	for _, n := range []int{14, 15} {
		l := append(list(dir("A"), file("A/x", "")), deep(n, "a")...)
		d := with(t, l)
		to := l[len(l)-1].Path + "/b"
		e := d.Move("A", to)
		if n == 14 {
			wantErr(t, e, api.OK)
			wantTree(t, d, append(l[2:], dir(to), file(to+"/x", "")))
			continue
		}
		wantErr(t, e, api.ErrPath)
		wantTree(t, d, l)
	}
	for _, n := range []int{10, 11} {
		l := append(list(dir("A"), dir("A/x"), file("A/x/"+long(n-2), "")), deep(6, long(64))...)
		d := with(t, l)
		e := d.Move("A", l[len(l)-1].Path+"/")
		wantErr(t, e, api.ErrPath)
		// The path will have 6 * 65 bytes, and those below.
		to := l[len(l)-1].Path + "/b"
		e = d.Move("A", to)
		if n == 10 {
			wantErr(t, e, api.ErrPath)
			wantErr(t, d.Move("A/x", to), api.OK)
			wantTree(t, d, append(append(list(dir("A")), l[3:]...), dir(to), file(to+"/"+long(8), "")))
			continue
		}
		wantErr(t, d.Move("A/x", to), api.ErrPath)
		wantTree(t, d, l)
	}
}

// P7.1: Move of a whole tree.
func TestMoveMany(t *testing.T) {
	l := list(dir("d"))
	for _, n := range wide(999) {
		n.Path = "d/" + n.Path
		l = append(l, n)
	}
	d := with(t, l)
	wantErr(t, d.Move("d", "b"), api.OK)
	want := slices.Clone(l)
	for i := range want {
		want[i].Path = "b" + want[i].Path[1:]
	}
	wantTree(t, d, want)
	crashed(t, d, 1, 0)
	wantTree(t, d, want)
	wantStamp(t, d, "b/1998", api.Stamp{Ino: 1000, Size: 1})
}

// P7.1: Replace.
func TestReplace(t *testing.T) {
	replace := func(path, to string) asked { return asked{call: "Replace", path: path, to: to} }
	rows := []row{
		{replace("f", "b"), 0, instead(t, list(file("b", "u")), "f")},
		{replace("f", "a/b"), 0, instead(t, list(file("a/b", "u")), "f", "a/b")},
		{replace("f", "a/c/d"), 0, instead(t, list(file("a/c/d", "u")), "f", "a/c/d")},
		{replace("a/c/d", "f"), 0, instead(t, list(link("f", "../b")), "f", "a/c/d")},
		{replace("a/c/d", "a/c/e"), 0, instead(t, list(link("a/c/e", "../b")), "a/c/d")},
		{replace("a.b", "e/x"), 0, instead(t, list(file("e/x", "")), "a.b")},
		{replace("f", "f"), 2, nil}, {replace("a", "a"), 2, nil}, {replace("q", "q"), 2, nil},
		{replace("b", "f"), 74, nil}, {replace("b", "a"), 74, nil}, {replace("b", "q/r"), 74, nil},
		{replace("a", "b"), 73, nil}, {replace("e", "f"), 73, nil}, {replace("f", "a"), 73, nil}, {replace("f", "e"), 73, nil}, {replace("a", "q/r"), 73, nil}, {replace("a", "e"), 73, nil}, {replace("a", "a/x"), 73, nil},
		{replace("f", "q/r"), 62, nil}, {replace("f", "f/x"), 62, nil}, {replace("f", "a/b/x"), 62, nil}, {replace("f", "a/c/d/x"), 62, nil},
		{replace("q", ".."), 11, nil}, {replace("", ""), 11, nil},
	}
	for _, p := range noPaths() {
		rows = append(rows, row{replace(p, "b"), 11, nil}, row{replace("f", p), 11, nil}, row{replace(p, p), 11, nil})
	}
	check(t, rows)
}

// P7.1: Get and Names.
func TestGetAndNames(t *testing.T) {
	d := with(t, some())
	for i, n := range some() {
		got := ask(d, asked{call: "Get", path: n.Path})
		if got != (answer{node: n, stamp: api.Stamp{Ino: i + 1, Size: len(n.Data)}}) {
			t.Errorf("Get(%q) is %v", n.Path, got)
		}
	}
	if got := ask(d, asked{call: "Get"}); got != (answer{node: dir("")}) {
		t.Errorf("Get of the root is %v", got)
	}
	for _, x := range []struct{ dir, want string }{{"", "a a.b e f"}, {"a", "b c"}, {"a/c", "d"}, {"e", ""}} {
		if got := ask(d, asked{call: "Names", path: x.dir}); got != (answer{names: x.want}) {
			t.Errorf("Names(%q) is %v", x.dir, got)
		}
	}
	for _, x := range []struct {
		path       string
		get, names api.Errno
	}{{"b", 74, 74}, {"a/d", 74, 74}, {"f/x", 74, 74}, {"a.", 74, 74}, {"f", 0, 73}, {"a/b", 0, 73}, {"a/c/d", 0, 73}} {
		get, names := ask(d, asked{call: "Get", path: x.path}), ask(d, asked{call: "Names", path: x.path})
		if get.err != x.get || x.get != 0 && get != (answer{err: x.get}) || names != (answer{err: x.names}) {
			t.Errorf("of %q Get is %v, Names %v", x.path, get, names)
		}
	}
	for _, p := range noPaths()[1:] {
		get, names := ask(d, asked{call: "Get", path: p}), ask(d, asked{call: "Names", path: p})
		if get != (answer{err: 11}) || names != (answer{err: 11}) {
			t.Errorf("of %.80q Get is %v, Names %v", p, get, names)
		}
	}
	wantTree(t, d, some())
}

// P7.1: inodes and times of what is laid, written, moved.
func TestStamps(t *testing.T) {
	d := with(t, some())
	wantErr(t, d.Mkdir("b"), api.OK)
	wantErr(t, d.Write("b/x", "12", 0), api.OK)
	wantErr(t, d.Link("l", "abc"), api.OK)
	wantErr(t, d.Write("l/x", "", 0), api.ErrParent)
	wantErr(t, d.Write("f", "1234", 0), api.OK)
	wantStamp(t, d, "b", api.Stamp{Ino: 8, Time: 1})
	wantStamp(t, d, "b/x", api.Stamp{Ino: 9, Size: 2, Time: 2})
	wantStamp(t, d, "l", api.Stamp{Ino: 10, Size: 3, Time: 3})
	wantStamp(t, d, "f", api.Stamp{Ino: 7, Size: 4, Time: 5})
	wantErr(t, d.Move("b", "e/b"), api.OK)
	wantErr(t, d.Replace("f", "e/b/x"), api.OK)
	wantErr(t, d.Sync("l"), api.OK)
	wantErr(t, d.Flush(), api.OK)
	wantStamp(t, d, "e/b", api.Stamp{Ino: 8, Time: 1})
	wantStamp(t, d, "e/b/x", api.Stamp{Ino: 7, Size: 4, Time: 5})
	wantStamp(t, d, "l", api.Stamp{Ino: 10, Size: 3, Time: 3})
	wantStamp(t, d, "a/b", api.Stamp{Ino: 2, Size: 3})
}

// P7.1: a number is never used twice, and the clock goes on over all Boots and crashes.
func TestNumbersAndClock(t *testing.T) {
	d := with(t, nil)
	wantErr(t, d.Write("a", "", 0), api.OK)
	wantErr(t, d.Remove("a"), api.OK)
	wantErr(t, d.Mkdir("a"), api.OK)
	wantStamp(t, d, "a", api.Stamp{Ino: 2, Time: 3})
	crashed(t, d, 0, 0)
	wantTree(t, d, nil)
	wantErr(t, d.Mkdir("a/b"), api.ErrParent)
	wantErr(t, d.Mkdir("a"), api.OK)
	wantStamp(t, d, "a", api.Stamp{Ino: 3, Time: 7})
	d.Boot(nil, []api.Edit{{At: 1, Path: "b", Value: list(dir(""), file("x", "u"))}})
	if d.Steps() != 0 {
		t.Errorf("behind Boot there are %d steps", d.Steps())
	}
	wantErr(t, d.Write("b", "", 0), api.OK)
	wantErr(t, d.Sync("b"), api.OK)
	wantStamp(t, d, "b", api.Stamp{Ino: 5, Time: 10})
	wantStamp(t, d, "b/x", api.Stamp{Ino: 6, Size: 1, Time: 10})
	wantErr(t, d.Write("c", "", 0), api.OK)
	wantStamp(t, d, "c", api.Stamp{Ino: 7, Time: 13})
	if d.Steps() != 6 {
		t.Errorf("there are %d steps, not 6", d.Steps())
	}
}

// P7.1: no room, by a fate or by too many nodes; errors of other kinds stand ahead of it.
func TestFull(t *testing.T) {
	full := api.Fate{What: api.Full}
	for _, x := range []struct {
		q    asked
		want api.Errno
	}{
		{asked{call: "Write", path: "b"}, 71}, {asked{call: "Write", path: "f"}, 71}, {asked{call: "Mkdir", path: "b"}, 71}, {asked{call: "Link", path: "b", to: "x"}, 71},
		{asked{call: "Write", path: ".."}, 11}, {asked{call: "Write", path: "b", mode: 512}, 2}, {asked{call: "Write", path: "q/r"}, 62}, {asked{call: "Write", path: "a"}, 73}, {asked{call: "Mkdir", path: "a"}, 72}, {asked{call: "Mkdir", path: "q/r"}, 62}, {asked{call: "Link", path: "f", to: "x"}, 72}, {asked{call: "Link", path: "b"}, 2},
		{asked{call: "Remove", path: "f"}, 0}, {asked{call: "Move", path: "a", to: "b"}, 0}, {asked{call: "Replace", path: "f", to: "b"}, 0}, {asked{call: "Sync", path: "f"}, 0}, {asked{call: "Flush"}, 0}, {asked{call: "Get", path: "f"}, 0}, {asked{call: "Names", path: "a"}, 0}, {asked{call: "Sync", path: "b"}, 74},
	} {
		d := booted(t, some(), []api.Fate{full})
		if got := ask(d, x.q); got.err != x.want {
			t.Errorf("%v with no room is %v", x.q, got)
		}
		if x.want != 0 && !slices.Equal(d.Tree(), some()) {
			t.Errorf("%v with no room leaves %s", x.q, told(d.Tree()))
		}
		again := with(t, some())
		if got := ask(again, x.q); x.want == 71 && got.err != 0 {
			t.Errorf("%v with room is %v", x.q, got)
		}
	}
	d := with(t, append(wide(998), dir("d")))
	wantErr(t, d.Mkdir("a"), api.OK)
	for _, q := range []asked{{call: "Write", path: "b"}, {call: "Mkdir", path: "b"}, {call: "Link", path: "b", to: "x"}} {
		wantErr(t, ask(d, q).err, api.ErrFull)
		wantErr(t, ask(d, asked{call: q.call, path: "q/r", to: "x"}).err, api.ErrParent)
	}
	wantErr(t, d.Write("1000", "other", 0), api.OK)
	wantErr(t, d.Move("1000", "b"), api.OK)
	wantErr(t, d.Replace("b", "1000"), api.OK)
	wantErr(t, d.Mkdir("a"), api.ErrThere)
	wantErr(t, d.Write("a", "", 0), api.ErrKind)
	wantErr(t, d.Remove("a"), api.OK)
	wantErr(t, d.Link("b", "x"), api.OK)
	// What was refused took no number, and is no change of names.
	wantStamp(t, d, "b", api.Stamp{Ino: 1001, Size: 1, Time: 14})
	crashed(t, d, 4, 9)
	wantTree(t, d, append(append(list(api.Node{Path: "1000", Kind: 1, Data: "other"}), wide(998)[1:]...), dir("d")))
}

// P7.1: fates: the first one of a step alone, whatever it is.
func TestFates(t *testing.T) {
	d := booted(t, some(), []api.Fate{{At: -1, What: api.Crash}, {At: 1, What: 0}, {At: 1, What: api.Crash}, {At: 3, What: api.Fail, Keep: 9}, {At: 3, What: api.Crash}, {At: 2, What: 4}, {At: 2, What: api.Fail}, {At: math.MaxInt, What: api.Crash}, {At: math.MinInt, What: api.Crash}, {At: 5, What: -1}, {At: 6, What: api.Crash, Keep: 1}})
	for i, x := range []struct {
		got, want api.Errno
	}{
		{d.Mkdir("b"), 0}, {d.Mkdir("c"), 0}, {d.Remove("b"), 0}, {d.Mkdir("d"), 70}, {d.Mkdir(".."), 11}, {d.Sync("f"), 0}, {d.Mkdir("g"), 75}, {d.Mkdir("h"), 75}, {d.Write("..", "", 512), 75}, {d.Flush(), 75},
	} {
		if x.got != x.want {
			t.Errorf("step %d is %d, not %d", i, x.got, x.want)
		}
	}
	if d.On() || d.Steps() != 7 || len(d.Trace()) != 7 {
		t.Errorf("behind the crash it is on %v, with %d steps", d.On(), d.Steps())
	}
	wantTree(t, d, instead(t, list(dir("b"))))
	d.Boot(nil, nil)
	wantErr(t, d.Mkdir("g"), api.OK)
	if !d.On() || d.Steps() != 1 {
		t.Errorf("behind Boot it is on %v, with %d steps", d.On(), d.Steps())
	}
}

// P7.1: a step that fails does nothing, whatever the call and however wrong.
func TestFail(t *testing.T) {
	for _, q := range []asked{{call: "Write", path: "f", data: "other"}, {call: "Write", path: "b"}, {call: "Mkdir", path: "b"}, {call: "Link", path: "b", to: "x"}, {call: "Remove", path: "f"}, {call: "Move", path: "a", to: "b"}, {call: "Replace", path: "f", to: "b"}, {call: "Sync", path: "n"}, {call: "Flush"}, {call: "Get", path: "f"}, {call: "Names", path: "a"}, {call: "Write", path: ".."}, {call: "Get", path: "q"}, {call: "Remove"}} {
		d := with(t, some())
		wantErr(t, d.Write("n", "u", 420), api.OK)
		d.Boot([]api.Fate{{At: 0, What: api.Fail}}, nil)
		if got := ask(d, q); got != (answer{err: 70}) {
			t.Errorf("%v is %v", q, got)
		}
		wantTree(t, d, instead(t, list(file("n", "u"))))
		if d.Steps() != 1 || !d.On() {
			t.Errorf("%v is %d steps", q, d.Steps())
		}
		// Neither was anything made safe.
		crashed(t, d, 1, 0)
		wantTree(t, d, instead(t, list(file("n", ""))))
	}
}

// P7.1: edits happen ahead of the step, in their order, if they can.
func TestEdits(t *testing.T) {
	sub := list(dir(""), file("x", "u"), dir("y"))
	d := booted(t, some(), []api.Fate{{At: 1, What: api.Fail}, {At: 3, What: api.Full}},
		api.Edit{At: 1, Path: "b", Value: sub}, api.Edit{At: 0, Path: "f", Value: nil}, api.Edit{At: 1, Path: "b/y/z", Value: list(link("", "v"))},
		api.Edit{At: 2, Path: "a", Value: list(file("", "w"))}, api.Edit{At: -1, Path: "e"}, api.Edit{At: 3, Path: "c", Value: list(dir(""))},
		// what can't be
		api.Edit{At: 0, Path: ""}, api.Edit{At: 0, Path: "..", Value: list(file("", ""))}, api.Edit{At: 0, Path: "q/r", Value: list(dir(""))}, api.Edit{At: 0, Path: "e", Value: list(dir("x"))}, api.Edit{At: 0, Path: "e", Value: list(file("", ""), dir("x"))}, api.Edit{At: 0, Path: "e", Value: append(list(dir("")), wide(999)...)}, api.Edit{At: 0, Path: "e", Value: append(list(dir("")), deep(16, "a")...)})
	wantErr(t, d.Sync("f"), api.ErrGone)
	wantTree(t, d, instead(t, nil, "f"))
	wantErr(t, d.Sync("b"), api.ErrIO)
	wantTree(t, d, instead(t, list(dir("b"), file("b/x", "u"), dir("b/y"), link("b/y/z", "v")), "f"))
	wantErr(t, d.Write("a", "", 0), api.OK)
	wantErr(t, d.Mkdir("c"), api.ErrThere)
	wantTree(t, d, list(api.Node{Path: "a", Kind: 1}, file("a.b", ""), dir("b"), file("b/x", "u"), dir("b/y"), link("b/y/z", "v"), dir("c"), dir("e")))
	for i, p := range []string{"b", "b/x", "b/y", "b/y/z"} {
		_, s, _ := d.Get(p)
		if s.Ino != 8+i || s.Time != 2 {
			t.Errorf("%s has the stamp %v", p, s)
		}
	}
	wantStamp(t, d, "a", api.Stamp{Ino: 12, Time: 3})
	wantStamp(t, d, "c", api.Stamp{Ino: 13, Time: 4})
	if d.Steps() != 10 {
		t.Errorf("there are %d steps", d.Steps())
	}
}

// P7.1: an edit is one change of names, whatever it lays, and lays nothing dirty; what stands within the path already gets new inodes.
func TestEditsAreChanges(t *testing.T) {
	edits := []api.Edit{{At: 0, Path: "a", Value: list(dir(""), file("b", "new"), dir("c"))}, {At: 0, Path: "q"}, {At: 0, Path: "a", Value: tree.At(some(), "a")}, {At: 0, Path: "..", Value: list(dir(""))}, {At: 0, Path: "g", Value: list(dir(""))}}
	want := [][]api.Node{some(), instead(t, list(dir("a"), file("a/b", "new"), dir("a/c")), "a"), instead(t, list(dir("a"), file("a/b", "new"), dir("a/c")), "a"), some(), instead(t, list(dir("g"))), instead(t, list(dir("g")))}
	inos := []int{2, 9, 9, 12, 12, 12}
	for keep := range want {
		d := booted(t, some(), []api.Fate{{At: 0, What: api.Crash, Keep: keep}}, edits...)
		wantErr(t, d.Flush(), api.ErrOff)
		wantTree(t, d, want[keep])
		d.Boot(nil, nil)
		_, s, _ := d.Get("a/b")
		if s.Ino != inos[keep] || s.Time != min(keep, 1) {
			t.Errorf("with %d changes kept a/b has the stamp %v", keep, s)
		}
		// The numbers that were lost aren't used again.
		wantErr(t, d.Mkdir("z"), api.OK)
		wantStamp(t, d, "z", api.Stamp{Ino: 16, Time: 3})
	}
	d := booted(t, wide(1000), nil, api.Edit{At: 0, Path: "1000", Value: list(file("", "y"))}, api.Edit{At: 0, Path: "1001", Value: list(dir(""), file("x", ""))}, api.Edit{At: 0, Path: "9", Value: list(dir(""))})
	wantStamp(t, d, "1000", api.Stamp{Ino: 1001, Size: 1, Time: 1})
	wantTree(t, d, append(list(file("1000", "y")), wide(1000)[1:]...))
}

// P7.1: of a crash: how many changes of names survive, and how many bytes.
func TestCrash(t *testing.T) {
	// Four changes of names; the write to a/b and the sync are none.
	work := func(d *disk.Disk) {
		for _, q := range []asked{{call: "Write", path: "n", data: "12345", mode: 420}, {call: "Write", path: "a/b", data: "98765", mode: 420}, {call: "Write", path: "s", data: "synced", mode: 420}, {call: "Sync", path: "s"}, {call: "Move", path: "a", to: "m"}, {call: "Replace", path: "n", to: "m/b"}} {
			wantErr(t, ask(d, q).err, api.OK)
		}
	}
	cut := func(text string, torn int) string { return text[:min(max(torn, 0), len(text))] }
	for _, torn := range []int{math.MinInt, -1, 0, 1, 3, 4, 5, 6, math.MaxInt} {
		n, b := file("n", cut("12345", torn)), cut("98765", torn)
		a := list(dir("a"), file("a/b", b), dir("a/c"), link("a/c/d", "../b"))
		m := list(dir("m"), file("m/b", b), dir("m/c"), link("m/c/d", "../b"))
		none := instead(t, a, "a")
		one := instead(t, append(a, n), "a")
		two := instead(t, append(a, n, file("s", "synced")), "a")
		three := instead(t, append(m, n, file("s", "synced")), "a")
		m[1].Data = n.Data
		all := instead(t, append(m, file("s", "synced")), "a")
		for keep, want := range map[int][]api.Node{math.MinInt: none, -1: none, 0: none, 1: one, 2: two, 3: three, 4: all, 5: all, math.MaxInt: all} {
			d := booted(t, some(), []api.Fate{{At: 6, What: api.Crash, Keep: keep, Torn: torn}})
			work(d)
			if n, s, e := d.Get("m/b"); n != (api.Node{}) || s != (api.Stamp{}) || e != api.ErrOff {
				t.Fatalf("Get at the crash is %v, %v, %d", n, s, e)
			}
			if d.On() || d.Steps() != 7 {
				t.Fatalf("behind the crash it is on %v, with %d steps", d.On(), d.Steps())
			}
			wantTree(t, d, want)
			// All of that is safe, and nothing is dirty.
			crashed(t, d, 0, 0)
			wantTree(t, d, want)
		}
	}
}

// P7.1: Boot leaves what isn't safe as it is, and turns the disk on.
func TestBoot(t *testing.T) {
	d := booted(t, nil, []api.Fate{{At: 2, What: api.Fail}, {At: 7, What: api.Fail}}, api.Edit{At: 2, Path: "z", Value: list(dir(""))})
	wantErr(t, d.Write("a", "xyz", 0), api.OK)
	wantErr(t, d.Mkdir("b"), api.OK)
	d.Boot([]api.Fate{{At: 3, What: api.Crash, Keep: 1, Torn: 2}}, nil)
	if d.Steps() != 0 || len(d.Trace()) != 0 || !d.On() {
		t.Errorf("behind Boot there are %d steps", d.Steps())
	}
	wantErr(t, d.Mkdir("c"), api.OK)
	wantErr(t, d.Mkdir("d"), api.OK)
	wantErr(t, d.Mkdir("e"), api.OK)
	wantErr(t, d.Mkdir("f"), api.ErrOff)
	wantTree(t, d, list(api.Node{Path: "a", Kind: 1, Data: "xy"}))
	d.Boot(nil, nil)
	d.Boot(nil, nil)
	for range 9 {
		wantErr(t, d.Flush(), api.OK)
	}
	wantTree(t, d, list(api.Node{Path: "a", Kind: 1, Data: "xy"}))
}

// P7.1: Flush and Sync make safe what is so far, and nothing that comes.
func TestSafe(t *testing.T) {
	d := with(t, nil)
	wantErr(t, d.Write("a", "one", 420), api.OK)
	wantErr(t, d.Flush(), api.OK)
	wantErr(t, d.Mkdir("b"), api.OK)
	crashed(t, d, 0, 2)
	wantTree(t, d, list(file("a", "on")))
	wantErr(t, d.Write("a", "two", 420), api.OK)
	wantErr(t, d.Sync("a"), api.OK)
	wantErr(t, d.Write("a", "three", 420), api.OK)
	crashed(t, d, 0, 1)
	wantTree(t, d, list(file("a", "t")))
	wantErr(t, d.Write("a", "four", 420), api.OK)
	wantErr(t, d.Sync("a"), api.OK)
	crashed(t, d, 0, 0)
	wantTree(t, d, list(file("a", "four")))
	// What has lost its name comes back with what was written to it.
	wantErr(t, d.Write("a", "five", 7), api.OK)
	wantErr(t, d.Remove("a"), api.OK)
	wantErr(t, d.Mkdir("a"), api.OK)
	crashed(t, d, 0, 3)
	wantTree(t, d, list(api.Node{Path: "a", Kind: 1, Data: "fiv", Mode: 7}))
}

// P7.1: of a nil disk.
func TestNil(t *testing.T) {
	var d *disk.Disk
	d.Boot([]api.Fate{{What: api.Fail}}, []api.Edit{{Path: "a", Value: list(dir(""))}})
	for _, q := range []asked{{call: "Write", path: "f"}, {call: "Mkdir", path: "b"}, {call: "Link", path: "b", to: "x"}, {call: "Remove", path: "f"}, {call: "Move", path: "a", to: "b"}, {call: "Replace", path: "f", to: "b"}, {call: "Sync", path: "f"}, {call: "Flush"}, {call: "Get"}, {call: "Names"}, {call: "Write", path: "..", mode: -1}} {
		if got := ask(d, q); got != (answer{err: 75}) {
			t.Errorf("%v of a nil disk is %v", q, got)
		}
	}
	if d.On() || d.Steps() != 0 || len(d.Trace()) != 0 || len(d.Tree()) != 0 {
		t.Errorf("a nil disk is on %v, with %d steps", d.On(), d.Steps())
	}
}

// P7.1: the trace tells what was asked, however it was answered.
func TestTrace(t *testing.T) {
	d := booted(t, some(), []api.Fate{{At: 11, What: api.Fail}, {At: 12, What: api.Full}, {At: 14, What: api.Crash}})
	calls := []asked{{call: "Write", path: "b", data: "x"}, {call: "Mkdir", path: "c"}, {call: "Link", path: "l", to: "x/y"}, {call: "Remove", path: "f"}, {call: "Move", path: "a", to: "m"}, {call: "Replace", path: "b", to: "n"}, {call: "Sync", path: "n"}, {call: "Flush"}, {call: "Get"}, {call: "Names", path: "m"}, {call: "Write", path: "..", mode: -1}, {call: "Mkdir", path: "o"}, {call: "Link", path: "p", to: ""}, {call: "Move", path: "", to: "\xff"}, {call: "Get", path: "m"}, {call: "Get", path: "n"}, {call: "Flush"}}
	for _, q := range calls {
		ask(d, q)
	}
	got := d.Trace()
	if len(got) != 15 || d.Steps() != 15 {
		t.Fatalf("the trace is %v", got)
	}
	for i, did := range got {
		if q := calls[i]; did != (api.Did{Call: q.call, Path: q.path, To: q.to}) {
			t.Errorf("of step %d the trace tells %v", i, did)
		}
	}
}

// The chapter's examples.
func TestExamples(t *testing.T) {
	for _, x := range []struct {
		sync bool
		fate api.Fate
		want []api.Node
	}{
		{true, api.Fate{At: 2, What: api.Crash}, nil},
		{true, api.Fate{At: 2, What: api.Crash, Keep: 1}, list(file("a", "xy"))},
		{false, api.Fate{At: 1, What: api.Crash, Keep: 1, Torn: 1}, list(file("a", "x"))},
	} {
		d := booted(t, nil, []api.Fate{x.fate})
		wantErr(t, d.Write("a", "xy", 420), api.OK)
		if x.sync {
			wantErr(t, d.Sync("a"), api.OK)
		}
		wantErr(t, d.Sync("a"), api.ErrOff)
		wantTree(t, d, x.want)
	}
	d := booted(t, nil, nil, api.Edit{At: 1, Path: "a"})
	wantErr(t, d.Write("a", "xy", 420), api.OK)
	_, _, e := d.Get("a")
	wantErr(t, e, api.ErrGone)
}

// P7.1: what the disk answers, and what it holds, is what a slow one does.
func checkSlowly(t *testing.T, d *disk.Disk, m *slowDisk, q asked) {
	t.Helper()
	got, want := ask(d, q), m.ask(q)
	if got != want {
		t.Fatalf("behind %v %v is %v, not %v", m.trace, q, got, want)
	}
	if d.On() != m.on || d.Steps() != len(m.trace) || !slices.Equal(d.Trace(), m.trace) {
		t.Fatalf("on is %v, the trace %v, not %v, %v", d.On(), d.Trace(), m.on, m.trace)
	}
	l := d.Tree()
	if !slices.Equal(l, m.tree()) || tree.Check(l) != api.OK {
		t.Fatalf("behind %v the tree is %s, not %s", m.trace, told(l), told(m.tree()))
	}
}

// P7.1: any calls, with any fates and edits, crashes and Boots between them.
func TestAnyCalls(t *testing.T) {
	for seed := range int64(3000) {
		dice := rand.New(rand.NewSource(seed))
		start := anyOf(dice, nil, some(), anyValue(dice))
		d, e := disk.New(start)
		if e != api.OK {
			start = nil
			d = with(t, nil)
		}
		m := newSlow(start)
		for range 4 {
			fates, edits := anyFates(dice, 15), anyEdits(dice, 15)
			d.Boot(fates, edits)
			m.boot(fates, edits)
			for range 15 {
				checkSlowly(t, d, m, anyCall(dice))
			}
			for _, p := range m.paths() {
				checkSlowly(t, d, m, asked{call: "Get", path: p})
			}
		}
	}
}

// P7.1: all calls of a few, three in a row, and then any crash.
func TestShortRuns(t *testing.T) {
	var few []asked
	for _, p := range []string{"a", "b", "a/b"} {
		few = append(few, asked{call: "Write", path: p, data: "xyz"}, asked{call: "Mkdir", path: p}, asked{call: "Remove", path: p}, asked{call: "Sync", path: p})
	}
	few = append(few, asked{call: "Flush"}, asked{call: "Move", path: "a", to: "b"}, asked{call: "Replace", path: "a", to: "b"}, asked{call: "Replace", path: "b", to: "a"}, asked{call: "Move", path: "b", to: "a/b"}, asked{call: "Move", path: "a/b", to: "b"}, asked{call: "Link", path: "b", to: "x"})
	for i := range len(few) * len(few) * len(few) {
		calls := []asked{few[i%len(few)], few[i/len(few)%len(few)], few[i/len(few)/len(few)]}
		for keep := range 4 {
			fates := []api.Fate{{At: 3, What: api.Crash, Keep: keep, Torn: keep % 2}}
			start := list(file("a", "old"))[:i%2]
			d, m := booted(t, start, fates), newSlow(start)
			m.boot(fates, nil)
			for _, q := range append(calls, asked{call: "Flush"}) {
				checkSlowly(t, d, m, q)
			}
		}
	}
}

// P7.2: what is synced and flushed survives every crash behind it, as long as nothing is changed.
func TestSyncedAndFlushed(t *testing.T) {
	for seed := range int64(500) {
		dice := rand.New(rand.NewSource(seed))
		d := booted(t, some(), nil, anyEdits(dice, 30)...)
		for range 30 {
			ask(d, anyCall(dice))
		}
		l := d.Tree()
		for _, n := range l {
			wantErr(t, d.Sync(n.Path), api.OK)
		}
		wantErr(t, d.Flush(), api.OK)
		var stamps []api.Stamp
		for _, n := range l {
			_, s, _ := d.Get(n.Path)
			stamps = append(stamps, s)
		}
		for range 3 {
			d.Boot(anyFates(dice, 4), nil)
			for range 5 {
				ask(d, asked{call: anyOf(dice, "Get", "Names", "Sync", "Flush"), path: anyPath(dice)})
			}
			wantTree(t, d, l)
			crashed(t, d, dice.Intn(3)-1, dice.Intn(3)-1)
			wantTree(t, d, l)
		}
		for i, n := range l {
			wantStamp(t, d, n.Path, stamps[i])
		}
	}
}

// P7.3: a file that is written under another name, synced, and put in the place of an old one is there whole, or the old one is.
func TestWhole(t *testing.T) {
	calls := []asked{{call: "Write", path: "a~", data: "new data", mode: 384}, {call: "Sync", path: "a~"}, {call: "Replace", path: "a~", to: "a"}, {call: "Flush"}, {call: "Get", path: "a"}}
	old, whole := file("a", "old data"), api.Node{Path: "a", Kind: 1, Data: "new data", Mode: 384}
	for at := range 6 {
		for keep := -1; keep < 5; keep++ {
			for torn := -1; torn < 10; torn++ {
				d := booted(t, list(old), []api.Fate{{At: at, What: api.Crash, Keep: keep, Torn: torn}})
				for _, q := range append(calls, asked{call: "Names"}) {
					ask(d, q)
				}
				n, _ := tree.Get(d.Tree(), "a")
				want := old
				if at == 3 && keep >= 2 || at > 3 {
					want = whole
				}
				if n != want || d.On() {
					t.Fatalf("a crash at %d, keeping %d, %d, leaves %v", at, keep, torn, n)
				}
			}
		}
	}
}

// behind is a list with some room behind it, that is filled.
func behind[T any](l []T, more T) []T {
	return append(slices.Clone(l), more, more, more)[:len(l)]
}

// P7.4: what is handed in stays as it was, and so does the room behind it; it isn't kept either.
func TestNothingHandedInIsChangedOrKept(t *testing.T) {
	more, fate := file("more", ""), api.Fate{At: 2, What: api.Fail}
	l, v := behind(some(), more), behind(list(dir(""), file("x", "u")), more)
	fates := behind([]api.Fate{{At: 1, What: api.Fail}}, fate)
	edits := behind([]api.Edit{{At: 1, Path: "b", Value: v}}, api.Edit{At: 2, Path: "c", Value: v})
	d := with(t, l)
	d.Boot(fates, edits)
	wantErr(t, d.Write("f", "new", 420), api.OK)
	wantErr(t, d.Mkdir("g"), api.ErrIO)
	wantErr(t, d.Write("b/x", "new", 420), api.OK)
	wantErr(t, d.Remove("a/b"), api.OK)
	d.Boot(fates, edits)
	wantErr(t, d.Write("b/x", "newer", 420), api.OK)
	if !slices.Equal(l[:8], append(some(), more)) || !slices.Equal(v[:3], list(dir(""), file("x", "u"), more)) || !slices.Equal(fates[:2], []api.Fate{{At: 1, What: api.Fail}, fate}) || len(edits) != 1 || edits[0].Path != "b" || edits[:2][1].Path != "c" {
		t.Errorf("what was handed in is %v, %v, %v, %v", l, v, fates, edits)
	}
	clear(l[:cap(l)])
	clear(v[:cap(v)])
	clear(fates[:cap(fates)])
	clear(edits[:cap(edits)])
	wantErr(t, d.Flush(), api.ErrIO)
	wantTree(t, d, instead(t, list(dir("b"), file("b/x", "u"), file("f", "new")), "a/b", "f"))
	again := with(t, some())
	again.Boot(nil, edits[:0])
	wantTree(t, again, some())
}

// P7.4: what is answered is new memory: what is done to it changes neither the disk nor another answer.
func TestAnswersAreNew(t *testing.T) {
	d := with(t, some())
	wantErr(t, d.Write("g", "u", 420), api.OK)
	want := d.Tree()
	for range 2 {
		l, names, trace := d.Tree(), first(d.Names("a")), d.Trace()
		l2, names2, trace2 := d.Tree(), first(d.Names("a")), d.Trace()
		clear(l[:cap(l)])
		clear(names[:cap(names)])
		clear(trace[:cap(trace)])
		if !slices.Equal(l2, want) || !slices.Equal(names2, []string{"b", "c"}) || trace2[0].Call != "Write" {
			t.Errorf("answers share room: %s, %v, %v", told(l2), names2, trace2)
		}
		wantTree(t, d, want)
		if first(d.Names("a"))[0] != "b" || d.Trace()[0].Call != "Write" {
			t.Errorf("an answer shares room with the disk")
		}
		wantErr(t, d.Flush(), api.OK)
	}
	// What the disk does later changes no answer of before.
	l, trace := d.Tree(), d.Trace()
	clear(append(trace, api.Did{}, api.Did{})[len(trace):])
	wantErr(t, d.Remove("a/b"), api.OK)
	wantErr(t, d.Write("g", "new", 420), api.OK)
	if !slices.Equal(l, want) || !slices.Equal(d.Trace()[:len(trace)], trace) {
		t.Errorf("later calls have changed %s", told(l))
	}
}

// first is a list without its error.
func first(l []string, _ api.Errno) []string { return l }

// P7.4, R7: two disks of one tree know nothing of one another.
func TestTwoDisks(t *testing.T) {
	l := some()
	d, other := with(t, l), with(t, l)
	wantErr(t, d.Write("f", "new", 0), api.OK)
	wantErr(t, d.Move("a", "b"), api.OK)
	wantTree(t, other, some())
	wantErr(t, other.Write("f", "newer", 420), api.OK)
	wantTree(t, other, instead(t, list(file("f", "newer")), "f"))
	if other.Steps() != 1 || d.Steps() != 2 {
		t.Errorf("the steps are %d and %d", d.Steps(), other.Steps())
	}
}
