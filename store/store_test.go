package store_test

import (
	"fmt"
	"math/rand"
	"slices"
	"strconv"
	"strings"
	"testing"

	"hawser/api"
	"hawser/disk"
	"hawser/store"
)

func dir(path string) api.Node { return api.Node{Path: path, Kind: api.Dir} }
func file(path, data string) api.Node {
	return api.Node{Path: path, Kind: api.File, Data: data, Mode: 420}
}
func link(path, to string) api.Node     { return api.Node{Path: path, Kind: api.Link, Data: to} }
func list(nodes ...api.Node) []api.Node { return nodes }
func rep(s string, n int) string        { return strings.Repeat(s, n) }

// saved is a file that a Save has laid.
func saved(path, data string) api.Node {
	return api.Node{Path: path, Kind: api.File, Data: data, Mode: 384}
}

// some is a tree with all kinds.
func some() []api.Node {
	return list(dir("a"), file("a/b", "xyz"), dir("a/c"), link("a/c/d", "../b"), file("a.b", ""), dir("e"), file("f", "u"))
}

// with is a disk that has this tree.
func with(t testing.TB, l []api.Node) *disk.Disk {
	t.Helper()
	d, e := disk.New(l)
	if e != api.OK {
		t.Fatalf("New is %d", e)
	}
	return d
}

// ask makes the call.
func ask(d *disk.Disk, q asked) answer {
	switch q.call {
	case "Save":
		return answer{err: store.Save(d, q.path, q.text)}
	case "Clear":
		return answer{err: store.Clear(d, q.path)}
	}
	text, there, e := store.Load(d, q.path)
	return answer{text, there, e}
}

func save(path, text string) asked { return asked{"Save", path, text} }
func load(path string) asked       { return asked{"Load", path, ""} }
func clears(path string) asked     { return asked{"Clear", path, ""} }

// fails is an answer of an error alone.
func fails(e api.Errno) answer { return answer{err: e} }

// short is the beginning of what can be told, for messages.
func short(x any) string {
	all := fmt.Sprint(x)
	return strings.ToValidUTF8(all[:min(len(all), 300)], "?")
}

// trace is the steps of a Save or a Clear up to a number.
func trace(q asked, count int) []api.Did {
	beside := q.path + "~"
	all := []api.Did{{Call: "Write", Path: beside}, {Call: "Sync", Path: beside}, {Call: "Replace", Path: beside, To: q.path}, {Call: "Flush"}}
	switch q.call {
	case "Clear":
		all = []api.Did{{Call: "Remove", Path: q.path}, {Call: "Flush"}}
	case "Load":
		all = []api.Did{{Call: "Get", Path: q.path}}
	}
	return all[:count]
}

// row is a call, its answer, how many steps it asks for, and the disk's tree behind it (that of before, if there is none told).
type row struct {
	before []api.Node
	q      asked
	want   answer
	steps  int
	after  []api.Node
}

// check makes the calls of the rows, each on a disk of its own.
func check(t *testing.T, rows []row) {
	t.Helper()
	for _, r := range rows {
		d := with(t, r.before)
		got := ask(d, r.q)
		if got != r.want {
			t.Errorf("%s is %s, not %s", short(r.q), short(got), short(r.want))
		}
		if !slices.Equal(d.Trace(), trace(r.q, r.steps)) {
			t.Errorf("%s asks for %s", short(r.q), short(d.Trace()))
		}
		after := r.after
		if after == nil {
			after = r.before
		}
		if !slices.Equal(d.Tree(), after) {
			t.Errorf("%s leaves %s, not %s", short(r.q), short(d.Tree()), short(after))
		}
	}
}

// wide is a tree of n files in the root (n up to 9000).
func wide(n int) []api.Node {
	var t []api.Node
	for i := range n {
		t = append(t, file(strconv.Itoa(1000+i), "x"))
	}
	return t
}

// deep is a tree of directories, each within the one ahead of it.
func deep(names ...string) []api.Node {
	var t []api.Node
	for i := range names {
		t = append(t, dir(strings.Join(names[:i+1], "/")))
	}
	return t
}

// P10.1: Beside, of any text.
func TestBeside(t *testing.T) {
	for _, p := range []string{"", "a", "a~", "a/b", "a/", "~", "\x00", "\xff", "é", rep("a", 64), rep("a/", 300), rep("x", 1<<20)} {
		if got := store.Beside(p); got != p+"~" {
			t.Errorf("Beside(%s) is %s", short(p), short(got))
		}
	}
}

// P10.1: Save, where it is OK: over nothing, a file, a link, and whatever file is left beside.
func TestSave(t *testing.T) {
	big := rep("x", 65536)
	odd := "\x00\xff\n"
	check(t, []row{
		{nil, save("a", "x"), answer{}, 4, list(saved("a", "x"))},
		{nil, save("a", ""), answer{}, 4, list(saved("a", ""))},
		{nil, save("a", big), answer{}, 4, list(saved("a", big))},
		{nil, save("a", odd), answer{}, 4, list(saved("a", odd))},
		{nil, save("~", "x"), answer{}, 4, list(saved("~", "x"))},
		{list(file("a", "old")), save("a", "x"), answer{}, 4, list(saved("a", "x"))},
		{list(saved("a", "x")), save("a", "x"), answer{}, 4, list(saved("a", "x"))},
		{list(link("a", "x")), save("a", "x"), answer{}, 4, list(saved("a", "x"))},
		{list(file("a~", "left")), save("a", "x"), answer{}, 4, list(saved("a", "x"))},
		{list(file("a", "old"), file("a~", "left")), save("a", "x"), answer{}, 4, list(saved("a", "x"))},
		{list(file("a", "old"), file("a~", "old")), save("a~", "x"), answer{}, 4, list(file("a", "old"), saved("a~", "x"))},
		{list(dir("a")), save("a/b", "x"), answer{}, 4, list(dir("a"), saved("a/b", "x"))},
		{list(dir("a~")), save("a~/b", "x"), answer{}, 4, list(dir("a~"), saved("a~/b", "x"))},
		{wide(999), save("a", "x"), answer{}, 4, append(wide(999), saved("a", "x"))},
		{nil, save(rep("a", 63), "x"), answer{}, 4, list(saved(rep("a", 63), "x"))},
	})
}

// P10.1: Save, where the disk refuses a step of it: what stands first in the disk's own chapter.
func TestSaveRefused(t *testing.T) {
	long := rep("x", 65537)
	left := func(data string) []api.Node { return list(dir("a"), saved("a~", data)) }
	names := slices.Repeat([]string{"a"}, 15)
	sixteenth := strings.Join(names, "/") + "/" + rep("b", 63)
	all400 := slices.Repeat([]string{rep("a", 64)}, 6)
	at400 := strings.Join(all400, "/") + "/" + rep("b", 10)
	check(t, []row{
		{nil, save("a", long), fails(api.ErrArg), 1, nil},
		{nil, save("a/b", "x"), fails(api.ErrParent), 1, nil},
		{list(file("a", "x")), save("a/b", "x"), fails(api.ErrParent), 1, nil},
		{list(dir("a~")), save("a", "x"), fails(api.ErrKind), 1, nil},
		{list(link("a~", "x")), save("a", "x"), fails(api.ErrKind), 1, nil},
		{list(dir("a")), save("a", "x"), fails(api.ErrKind), 3, left("x")},
		{list(dir("a"), file("a~", "left")), save("a", "x"), fails(api.ErrKind), 3, left("x")},
		{wide(1000), save("a", "x"), fails(api.ErrFull), 1, nil},
		{wide(1000), save("1000", "x"), fails(api.ErrFull), 1, nil},
		{nil, save(rep("a", 64), "x"), fails(api.ErrPath), 1, nil},
		{deep(names...), save(sixteenth, "x"), answer{}, 4, append(deep(names...), saved(sixteenth, "x"))},
		{deep(names...), save(sixteenth+"b", "x"), fails(api.ErrPath), 1, nil},
		{deep(all400...), save(at400, "x"), fails(api.ErrPath), 1, nil},
		{deep(all400...), save(at400[1:], "x"), fails(api.ErrParent), 1, nil},
		{deep(all400...), save(at400[:399], "x"), answer{}, 4, append(deep(all400...), saved(at400[:399], "x"))},
		// What is no path may have a path beside it.
		{nil, save("", "x"), fails(api.ErrPath), 3, list(saved("~", "x"))},
		{nil, save(".", "x"), fails(api.ErrPath), 3, list(saved(".~", "x"))},
		{list(dir("a")), save("a/", "x"), fails(api.ErrPath), 3, list(dir("a"), saved("a/~", "x"))},
		{nil, save("/", "x"), fails(api.ErrPath), 1, nil},
		{nil, save("\xff", "x"), fails(api.ErrPath), 1, nil},
		{nil, save("a\x00", long), fails(api.ErrPath), 1, nil},
		{nil, save(rep("a", 1<<20), "x"), fails(api.ErrPath), 1, nil},
	})
}

// P10.1: Load: one step, whatever is there.
func TestLoad(t *testing.T) {
	big := rep("x", 65536)
	check(t, []row{
		{some(), load("a/b"), answer{"xyz", true, 0}, 1, nil},
		{some(), load("a.b"), answer{"", true, 0}, 1, nil},
		{list(saved("a", big)), load("a"), answer{big, true, 0}, 1, nil},
		{list(saved("a", "\x00\xff")), load("a"), answer{"\x00\xff", true, 0}, 1, nil},
		{some(), load("g"), answer{}, 1, nil},
		{some(), load("f/g"), answer{}, 1, nil},
		{some(), load("g/g"), answer{}, 1, nil},
		{nil, load("a"), answer{}, 1, nil},
		// What is beside is nothing to a Load.
		{list(saved("a~", "x")), load("a"), answer{}, 1, nil},
		{list(saved("a", "old"), saved("a~", "x")), load("a"), answer{"old", true, 0}, 1, nil},
		{some(), load("a"), fails(api.ErrKind), 1, nil},
		{some(), load("e"), fails(api.ErrKind), 1, nil},
		{some(), load("a/c/d"), fails(api.ErrKind), 1, nil},
		{some(), load(""), fails(api.ErrKind), 1, nil},
		{nil, load(""), fails(api.ErrKind), 1, nil},
		{some(), load("a/"), fails(api.ErrPath), 1, nil},
		{some(), load(".."), fails(api.ErrPath), 1, nil},
		{some(), load("\xff"), fails(api.ErrPath), 1, nil},
		{nil, load(rep("a", 65)), fails(api.ErrPath), 1, nil},
		{nil, load(rep("a", 64)), answer{}, 1, nil},
		{nil, load(rep("a", 1<<20)), fails(api.ErrPath), 1, nil},
	})
}

// P10.1: Clear: of nothing one step, of anything else two, unless the first is refused.
func TestClear(t *testing.T) {
	empty := []api.Node{}
	check(t, []row{
		{list(file("a", "x")), clears("a"), answer{}, 2, empty},
		{list(link("a", "x")), clears("a"), answer{}, 2, empty},
		{list(dir("a")), clears("a"), answer{}, 2, empty},
		{list(saved("a", "x"), saved("a~", "y")), clears("a"), answer{}, 2, list(saved("a~", "y"))},
		{list(saved(rep("a", 64), "x")), clears(rep("a", 64)), answer{}, 2, empty},
		{wide(1000), clears("1999"), answer{}, 2, wide(999)},
		{some(), clears("g"), answer{}, 1, nil},
		{some(), clears("f/g"), answer{}, 1, nil},
		{some(), clears("g/g"), answer{}, 1, nil},
		{list(saved("a~", "y")), clears("a"), answer{}, 1, nil},
		{some(), clears("a"), fails(api.ErrThere), 1, nil},
		{some(), clears(""), fails(api.ErrPath), 1, nil},
		{some(), clears("e/"), fails(api.ErrPath), 1, nil},
		{some(), clears("\xff"), fails(api.ErrPath), 1, nil},
		{nil, clears(rep("a", 65)), fails(api.ErrPath), 1, nil},
		{nil, clears(rep("a", 1<<20)), fails(api.ErrPath), 1, nil},
	})
}

// P10.1: a disk that is off, or none, answers that without a step.
func TestOff(t *testing.T) {
	d := with(t, some())
	d.Boot([]api.Fate{{At: 0, What: api.Crash}}, nil)
	d.Flush()
	for _, d := range []*disk.Disk{d, nil} {
		before := d.Tree()
		for _, p := range []string{"a/b", "g", "a", "", "\xff"} {
			for _, q := range []asked{save(p, "x"), save(p, rep("x", 65537)), load(p), clears(p)} {
				if got := ask(d, q); got != fails(api.ErrOff) {
					t.Errorf("%s is %s", short(q), short(got))
				}
			}
		}
		if !slices.Equal(d.Tree(), before) || d.Steps() > 1 || d.On() {
			t.Error("a disk that is off has changed")
		}
	}
}

// P10.1: each fate at each step: the error it has, and no step behind it.
func TestFates(t *testing.T) {
	before := list(saved("a", "old"))
	for _, q := range []asked{save("a", "new"), clears("a"), load("a")} {
		whole := with(t, before)
		want := ask(whole, q)
		for at := range whole.Steps() + 1 {
			for what, e := range map[int]api.Errno{api.Fail: api.ErrIO, api.Crash: api.ErrOff, api.Full: api.ErrFull, 4: 0} {
				d := with(t, before)
				d.Boot([]api.Fate{{At: at, What: what}}, nil)
				want, steps := want, whole.Steps()
				refused := what == api.Fail || what == api.Crash || what == api.Full && q.call == "Save" && at == 0
				if refused && at < steps {
					want, steps = fails(e), at+1
				}
				if got := ask(d, q); got != want || !slices.Equal(d.Trace(), trace(q, steps)) {
					t.Errorf("%v with the fate %d at %d is %v: %v", q, what, at, got, d.Trace())
				}
			}
		}
	}
}

// P10.1: what a user does between two steps.
func TestEdits(t *testing.T) {
	before := list(saved("a", "old"))
	nothing, itsDir := list(), list(dir(""))
	for _, x := range []struct {
		q     asked
		edit  api.Edit
		want  answer
		steps int
		after []api.Node
	}{
		{save("a", "x"), api.Edit{At: 1, Path: "a~", Value: nothing}, fails(api.ErrGone), 2, before},
		{save("a", "x"), api.Edit{At: 2, Path: "a~", Value: nothing}, fails(api.ErrGone), 3, before},
		{save("a", "x"), api.Edit{At: 2, Path: "a~", Value: itsDir}, fails(api.ErrKind), 3, list(before[0], dir("a~"))},
		{save("a", "x"), api.Edit{At: 2, Path: "a", Value: itsDir}, fails(api.ErrKind), 3, list(dir("a"), saved("a~", "x"))},
		{save("a", "x"), api.Edit{At: 2, Path: "a", Value: nothing}, answer{}, 4, list(saved("a", "x"))},
		{save("a", "x"), api.Edit{At: 3, Path: "a", Value: nothing}, answer{}, 4, list()},
		{clears("a"), api.Edit{At: 0, Path: "a", Value: nothing}, answer{}, 1, list()},
		{clears("a"), api.Edit{At: 1, Path: "a", Value: itsDir}, answer{}, 2, list(dir("a"))},
		{load("a"), api.Edit{At: 0, Path: "a", Value: nothing}, answer{}, 1, list()},
		{load("a"), api.Edit{At: 0, Path: "a", Value: itsDir}, fails(api.ErrKind), 1, list(dir("a"))},
		{load("a"), api.Edit{At: 1, Path: "a", Value: itsDir}, answer{"old", true, 0}, 1, before},
	} {
		d := with(t, before)
		d.Boot(nil, []api.Edit{x.edit})
		got := ask(d, x.q)
		if got != x.want || !slices.Equal(d.Trace(), trace(x.q, x.steps)) || !slices.Equal(d.Tree(), x.after) {
			t.Errorf("%v with %v is %v, and leaves %v: %v", x.q, x.edit, got, d.Tree(), d.Trace())
		}
	}
}

// anyCall is a call at one of a few paths.
func anyCall(dice *rand.Rand) asked {
	path := []string{"a", "b", "a/b", "a/b~", "a~", "b/c", "", "e", ".", "f~"}[dice.Intn(10)]
	switch dice.Intn(5) {
	case 0:
		return clears(path)
	case 1, 2:
		return load(path)
	}
	return save(path, []string{"", "x", "y", "long", rep("x", 65537)}[min(dice.Intn(20), 4)])
}

// anyFates are some of the first few steps.
func anyFates(dice *rand.Rand) []api.Fate {
	var all []api.Fate
	for range dice.Intn(4) {
		all = append(all, api.Fate{At: dice.Intn(12), What: dice.Intn(5), Keep: dice.Intn(6) - 1, Torn: dice.Intn(4) - 1})
	}
	return all
}

// anyEdits are some ahead of the first few steps.
func anyEdits(dice *rand.Rand) []api.Edit {
	var all []api.Edit
	for range dice.Intn(3) {
		path := []string{"a", "b", "a/b", "a~", "b~", "a/b~", "e"}[dice.Intn(7)]
		value := [][]api.Node{nil, list(dir("")), list(file("", "mine")), list(link("", "a"))}[dice.Intn(4)]
		all = append(all, api.Edit{At: dice.Intn(12), Path: path, Value: value})
	}
	return all
}

// P10.1: any calls, on disks with any fates and edits, against the steps that the chapter tells, on a disk that is its twin.
func TestAnyCalls(t *testing.T) {
	dice := rand.New(rand.NewSource(10))
	answers := map[api.Errno]int{}
	for range 10000 {
		d, twin := with(t, some()), with(t, some())
		for range 3 {
			fates, edits := anyFates(dice), anyEdits(dice)
			d.Boot(fates, edits)
			twin.Boot(fates, edits)
			for range 1 + dice.Intn(5) {
				q := anyCall(dice)
				got, want := ask(d, q), slowAsk(twin, q)
				answers[got.err]++
				if got != want || !slices.Equal(d.Trace(), twin.Trace()) || !slices.Equal(d.Tree(), twin.Tree()) || d.On() != twin.On() {
					t.Fatalf("%s with %v, %v is %s, not %s: %v", short(q), fates, edits, short(got), short(want), d.Trace())
				}
			}
		}
	}
	for _, e := range []api.Errno{0, api.ErrArg, api.ErrPath, api.ErrParent, api.ErrIO, api.ErrFull, api.ErrThere, api.ErrKind, api.ErrGone, api.ErrOff} {
		if answers[e] < 20 {
			t.Errorf("%d calls answer %d", answers[e], e)
		}
	}
}

// state is what stands at a path: a file's text, or nothing.
type state struct {
	text  string
	there bool
}

// leaves is what stands at the path behind a Save or a Clear that comes to its end.
func leaves(q asked) state { return state{q.text, q.call == "Save"} }

// ran is what is known behind some Saves and Clears.
type ran struct {
	last, before state // what the last of them leaves, and the one before
	err          api.Errno
	flushed      bool // the last one has made the names safe
	broken       bool // one of them was broken off
}

// run makes the calls, and boots the disk where one of them has crashed it.
func run(d *disk.Disk, first state, calls []asked) ran {
	r := ran{last: first, before: first}
	for _, q := range calls {
		r.before, r.last = r.last, leaves(q)
		r.err = ask(d, q).err
		trace := d.Trace()
		r.flushed = r.err == api.OK && trace[len(trace)-1].Call == "Flush"
		r.broken = r.broken || r.err != api.OK
		if !d.On() {
			d.Boot(nil, nil)
		}
	}
	return r
}

// loaded is what Load answers.
func loaded(t *testing.T, d *disk.Disk) state {
	t.Helper()
	text, there, e := store.Load(d, "a")
	if e != api.OK {
		t.Fatalf("Load is %d", e)
	}
	return state{text, there}
}

// checkWhole runs the calls with a fate, and then lets the disk crash once more.
func checkWhole(t *testing.T, first state, calls []asked, f, later api.Fate) bool {
	t.Helper()
	var l []api.Node
	if first.there {
		l = list(saved("a", first.text))
	}
	d := with(t, l)
	d.Boot([]api.Fate{f}, nil)
	r := run(d, first, calls)
	d.Boot(nil, nil)
	got := loaded(t, d)
	if got != r.last && (r.err == api.OK || got != r.before) {
		t.Fatalf("from %v, %v with %v: %v is there", first, calls, f, got)
	}
	d.Boot([]api.Fate{later}, nil)
	d.Flush()
	d.Boot(nil, nil)
	got = loaded(t, d)
	// A Clear that finds nothing makes no names safe: of what was cleared ahead of it, but not flushed, nothing is said here.
	stays := r.flushed || r.err != api.OK
	if stays && got != r.last && (r.flushed || got != r.before) {
		t.Fatalf("from %v, %v with %v, and %v later: %v is there", first, calls, f, later, got)
	}
	return r.broken
}

// sequences are all of up to so many Saves and Clears.
func sequences(most int) [][]asked {
	var all, longest [][]asked
	longest = [][]asked{{}}
	for range most {
		var longer [][]asked
		for _, s := range longest {
			for _, q := range []asked{save("a", "longer"), save("a", "s"), save("a", ""), clears("a")} {
				longer = append(longer, append(slices.Clone(s), q))
			}
		}
		longest = longer
		all = append(all, longest...)
	}
	return all
}

// fatesAt are those that break off something at a step: refusals, and crashes of which more or less survives.
func fatesAt(step int) []api.Fate {
	all := []api.Fate{{At: step, What: api.Fail}, {At: step, What: api.Full}}
	for keep := range 7 {
		for _, torn := range []int{0, 1, 99} {
			all = append(all, api.Fate{At: step, What: api.Crash, Keep: keep, Torn: torn})
		}
	}
	return all
}

// P10.2: all short rows of Saves and Clears, of which a fate breaks off one at each of its steps, and a crash behind them.
func TestWhole(t *testing.T) {
	broken := 0
	for _, calls := range sequences(3) {
		for _, first := range []state{{}, {"first", true}} {
			for step := range 4 * len(calls) {
				for i, f := range fatesAt(step) {
					later := api.Fate{At: 0, What: api.Crash, Keep: (i + step) % 5, Torn: i % 3}
					if checkWhole(t, first, calls, f, later) {
						broken++
					}
				}
			}
		}
	}
	if broken < 10000 {
		t.Error(broken)
	}
}

// P10.2: long rows of Saves and Clears.
func TestWholeOfMany(t *testing.T) {
	dice := rand.New(rand.NewSource(102))
	for range 20000 {
		var calls []asked
		for range 1 + dice.Intn(8) {
			calls = append(calls, []asked{save("a", "longer"), save("a", strconv.Itoa(dice.Intn(1000))), clears("a")}[dice.Intn(3)])
		}
		f := api.Fate{At: dice.Intn(4 * len(calls)), What: 1 + dice.Intn(3), Keep: dice.Intn(9), Torn: dice.Intn(9)}
		checkWhole(t, state{"first", true}, calls, f, api.Fate{At: 0, What: api.Crash, Keep: dice.Intn(9), Torn: dice.Intn(9)})
	}
}

// P10.2: what was saved with OK is there whatever crash comes, whenever: a Save behind it that hasn't begun to replace it changes nothing.
func TestSavedStays(t *testing.T) {
	for keep := range 5 {
		for at := range 3 {
			d := with(t, nil)
			if e := store.Save(d, "a", "kept"); e != api.OK {
				t.Fatal(e)
			}
			d.Boot([]api.Fate{{At: at, What: api.Crash, Keep: keep, Torn: 1}}, nil)
			if e := store.Save(d, "a", "new"); e != api.ErrOff {
				t.Fatal(e)
			}
			d.Boot(nil, nil)
			if got := loaded(t, d); got != (state{"kept", true}) {
				t.Errorf("with a crash at %d that keeps %d, %v is there", at, keep, got)
			}
		}
	}
}

// others are the nodes elsewhere than at the path and at the path beside.
func others(t []api.Node, path string) []api.Node {
	return slices.DeleteFunc(t, func(n api.Node) bool { return n.Path == path || n.Path == path+"~" })
}

// P10.3: any calls, some of which are broken off, leave all that stands elsewhere.
func TestElsewhere(t *testing.T) {
	dice := rand.New(rand.NewSource(103))
	for range 20000 {
		d := with(t, append(list(dir("a"), file("a/b", "xyz"), file("a/b~", "left")), some()[2:]...))
		d.Boot(anyFates(dice), nil)
		for range 1 + dice.Intn(4) {
			q := anyCall(dice)
			before := others(d.Tree(), q.path)
			ask(d, q)
			if !slices.Equal(others(d.Tree(), q.path), before) && d.On() {
				t.Fatalf("%s changes %v to %v", short(q), before, d.Tree())
			}
		}
	}
}

// P10.3: also behind a crash, where it stood safe, and of its stamps.
func TestElsewhereSafe(t *testing.T) {
	all := append(some(), file("g", "old"))
	for _, q := range []asked{save("g", "new"), save("a/b", "new"), save("h", "new"), clears("g"), clears("h"), load("g")} {
		for _, f := range append(append(fatesAt(0), fatesAt(1)...), append(fatesAt(2), fatesAt(3)...)...) {
			d := with(t, all)
			d.Boot([]api.Fate{f}, nil)
			ask(d, q)
			d.Boot(nil, nil)
			if !slices.Equal(others(d.Tree(), q.path), others(with(t, all).Tree(), q.path)) {
				t.Fatalf("%v with %v leaves %v", q, f, d.Tree())
			}
			wantStamps(t, d, all, q.path)
		}
	}
}

// wantStamps holds the stamps elsewhere against those of a new disk.
func wantStamps(t *testing.T, d *disk.Disk, all []api.Node, path string) {
	t.Helper()
	fresh := with(t, all)
	for _, n := range others(slices.Clone(all), path) {
		_, got, _ := d.Get(n.Path)
		_, want, _ := fresh.Get(n.Path)
		if got != want {
			t.Fatalf("the stamp of %q is %v, not %v", n.Path, got, want)
		}
	}
}

// The chapter's examples.
func TestExamples(t *testing.T) {
	d := with(t, nil)
	if e := store.Save(d, "a", "x"); e != api.OK || !slices.Equal(d.Trace(), trace(save("a", ""), 4)) {
		t.Error(e, d.Trace())
	}
	for _, x := range []struct {
		f    api.Fate
		want state
	}{
		{api.Fate{At: 2, What: api.Crash, Keep: 2}, state{}},
		{api.Fate{At: 3, What: api.Crash, Keep: 2}, state{"x", true}},
		{api.Fate{At: 3, What: api.Crash, Keep: 1}, state{}},
	} {
		d := with(t, nil)
		d.Boot([]api.Fate{x.f}, nil)
		e := store.Save(d, "a", "x")
		d.Boot(nil, nil)
		if got := loaded(t, d); got != x.want || e != api.ErrOff {
			t.Errorf("with %v, %v is there: %d", x.f, got, e)
		}
	}
}

// R7: two disks know nothing of one another, and the same is answered however often it is asked.
func TestTwoDisks(t *testing.T) {
	d, twin := with(t, some()), with(t, some())
	if store.Save(d, "f", "new") != api.OK || store.Clear(d, "a/b") != api.OK {
		t.Error("the calls are refused")
	}
	for range 3 {
		for path, want := range map[string]string{"f": "u", "a/b": "xyz"} {
			if text, there, e := store.Load(twin, path); text != want || !there || e != api.OK {
				t.Errorf("Load of %q is %q, %v, %d", path, text, there, e)
			}
		}
	}
}
