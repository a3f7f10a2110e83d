package recon_test

import (
	"fmt"
	"math/rand"
	"slices"
	"strconv"
	"strings"
	"testing"

	"hawser/api"
	"hawser/recon"
	"hawser/tree"
)

// made is a list of nodes told by words: "d/" is a directory, "f=x" a file with the text x, "f*x" one that may be run, "l>x" a link to x.
func made(words string) []api.Node {
	var l []api.Node
	for _, w := range strings.Fields(words) {
		at := strings.IndexAny(w, "=*>")
		switch {
		case at < 0:
			l = append(l, api.Node{Path: strings.TrimSuffix(w, "/"), Kind: api.Dir})
		case w[at] == '>':
			l = append(l, api.Node{Path: w[:at], Kind: api.Link, Data: w[at+1:]})
		default:
			l = append(l, api.Node{Path: w[:at], Kind: api.File, Data: w[at+1:], Mode: map[byte]int{'=': 420, '*': 493}[w[at]]})
		}
	}
	return l
}

// of is three trees told by words.
func of(o, a, b string) three { return three{made(o), made(a), made(b)} }

// told is the beginning of three lists, for messages.
func told(x three) string { return fmt.Sprintf("%.600s", fmt.Sprintf("%+v", x)) }

// words tells items: each by its path and a letter, "x:B x/y:!", = for Agreed, B for ToB, A for ToA, ! for Clash.
func words(items []api.Item) string {
	var all []string
	for _, i := range items {
		all = append(all, i.Path+":"+string("?=BA!"[i.What]))
	}
	return strings.Join(all, " ")
}

// turned is three trees with A and B exchanged.
func turned(x three) three { return three{x.o, x.b, x.a} }

// turnedWords is words with A and B exchanged.
func turnedWords(s string) string {
	return strings.NewReplacer(":A", ":B", ":B", ":A").Replace(s)
}

// want asks for both answers.
func want(t *testing.T, x three, items []api.Item, agreed []api.Node) {
	t.Helper()
	got, e := recon.Items(x.o, x.a, x.b)
	if e != api.OK || !slices.Equal(got, items) {
		t.Fatalf("Items of %s is %.300s, %d, not %.300s", told(x), words(got), e, words(items))
	}
	l, e := recon.Agree(x.o, x.a, x.b)
	if e != api.OK || !slices.Equal(l, agreed) {
		t.Fatalf("Agree of %s is %.300s, %d, not %.300s", told(x), fmt.Sprint(l), e, fmt.Sprint(agreed))
	}
}

// asked is both answers of three trees.
func asked(t *testing.T, x three) ([]api.Item, []api.Node) {
	t.Helper()
	items, e := recon.Items(x.o, x.a, x.b)
	agreed, e2 := recon.Agree(x.o, x.a, x.b)
	if e != api.OK || e2 != api.OK {
		t.Fatalf("%s: %d, %d", told(x), e, e2)
	}
	return items, agreed
}

// row is three trees, their items and what is agreed on.
type row struct{ o, a, b, items, agreed string }

// checkRows asks for each row, as it is and turned.
func checkRows(t *testing.T, rows []row) {
	t.Helper()
	for _, r := range rows {
		x := of(r.o, r.a, r.b)
		items, agreed := asked(t, x)
		turnedItems, turnedAgreed := asked(t, turned(x))
		if words(items) != r.items || words(turnedItems) != turnedWords(r.items) {
			t.Errorf("Items of %q, %q, %q is %q, turned %q, not %q", r.o, r.a, r.b, words(items), words(turnedItems), r.items)
		}
		if !slices.Equal(agreed, made(r.agreed)) || !slices.Equal(turnedAgreed, agreed) {
			t.Errorf("Agree of %q, %q, %q is %v, turned %v, not %q", r.o, r.a, r.b, agreed, turnedAgreed, r.agreed)
		}
	}
}

// P12.1: the chapter's examples.
func TestExamples(t *testing.T) {
	checkRows(t, []row{
		{"x=1", "x=2", "x=1", "x:B", "x=1"},
		{"x=1", "x=2", "x=3", "x:!", "x=1"},
		{"x=1", "x=2", "", "x:!", "x=1"},
		{"x=1", "", "", ":=", ""},
		{"x=1", "y=1", "z=1", "x:= y:B z:A", ""},
		{"", "x/ x/y=1", "x/ x/z=1", "x/y:B x/z:A", "x/"},
		{"x/ x/y=1", "x/ x/y=1", "", "x:A", "x/ x/y=1"},
		{"x/ x/y=1", "x/ x/y=2", "", "x:!", "x/ x/y=1"},
	})
}

// P12.1: at one path, whatever stands there.
func TestOnePath(t *testing.T) {
	checkRows(t, []row{
		{"", "", "", "", ""},
		{"x=1", "x=1", "x=1", "", "x=1"},
		{"", "x=1", "x=1", ":=", "x=1"},
		{"x=1", "x=2", "x=2", ":=", "x=2"},
		{"", "x=1", "", "x:B", ""},
		{"x=1", "", "x=1", "x:B", "x=1"},
		{"", "x=1", "x=2", "x:!", ""},
		{"x=1", "x*1", "x=1", "x:B", "x=1"},
		{"x=1", "x*1", "x=2", "x:!", "x=1"},
		{"x=1", "x>1", "x=1", "x:B", "x=1"},
		{"x>1", "x>2", "x=1", "x:!", "x>1"},
		{"x/", "x=1", "x/", "x:B", "x/"},
		{"x=1", "x/", "x=2", "x:!", "x=1"},
		{"x/", "x/", "x/", "", "x/"},
		{"", "x/", "x/", ":=", "x/"},
		{"x=1", "x/", "x/", ":=", "x/"},
	})
}

// P12.1: just where both have directories is gone down into them; O's names are looked at, if it has one there too.
func TestDirectories(t *testing.T) {
	checkRows(t, []row{
		{"x/ x/y=1", "x/ x/y=1", "x/", "x/y:A", "x/ x/y=1"},
		{"x/ x/y=1", "x/", "x/ x/z=1", "x/y:= x/z:A", "x/"},
		{"x/ x/y=1", "x/ x/y=1 x/z=1", "x/ x/y=1 x/z=2", "x/z:!", "x/ x/y=1"},
		{"x=1", "x/ x/y=1", "x/", "x/y:B", "x/"},
		{"x=1", "x/ x/y=1", "x/ x/y=1 x/z=1", "x/y:= x/z:A", "x/ x/y=1"},
		{"x>y", "x/ x/y=1", "x/ x/y=2", "x/y:!", "x/"},
		{"x/ x/y=1", "x=1", "x/ x/y=1", "x:B", "x/ x/y=1"},
		{"x/ x/y=1", "x=1", "x/ x/y=2", "x:!", "x/ x/y=1"},
		{"x/ x/y=1", "x=1", "x/", "x:!", "x/ x/y=1"},
		{"x/ x/y=1", "x=1", "x=2", "x:!", "x/ x/y=1"},
		{"x/ x/y=1", "x=1", "", "x:!", "x/ x/y=1"},
		{"x/ x/y=1 z=1", "x=1", "x=1", ":=", "x=1"},
		{"x/ x/y=1 z=1", "x=1", "x=1 z=1", "x:= z:B", "x=1 z=1"},
		{"", "x/ x/y=1", "x=1", "x:!", ""},
		{"", "x/ x/y/ x/y/z=1", "x/ x/y/", "x/y/z:B", "x/ x/y/"},
		{"x/ x/y/ x/y/z=1", "x/ x/y/", "x/ x/y=1", "x/y:!", "x/ x/y/ x/y/z=1"},
		{"x/ x/y/ x/y/z=1", "x/", "x/ x/y/ x/y/w=1 x/y/z=1", "x/y:!", "x/ x/y/ x/y/z=1"},
		{"x/ x/y/ x/y/z=1", "x/ x/y/", "x/ x/y/ x/y/w=1 x/y/z=1", "x/y/w:A x/y/z:B", "x/ x/y/ x/y/z=1"},
	})
}

// P12.1: what both have is the same as a whole at the topmost path where it is so, and is told just there.
func TestAgreedWhole(t *testing.T) {
	checkRows(t, []row{
		{"", "d/ d/x=1 d/y=1", "d/ d/x=1 d/y=1", ":=", "d/ d/x=1 d/y=1"},
		{"", "d/ d/x=1 d/y=1 e=1", "d/ d/x=1 d/y=1", "d:= e:B", "d/ d/x=1 d/y=1"},
		{"d/ d/x=2", "d/ d/x=1 e=1", "d/ d/x=1 e=2", "d:= e:!", "d/ d/x=1"},
		{"d/ d/x=2", "e=1", "e=2", "d:= e:!", ""},
		{"d/ d/x=2 e=1", "d/ d/x=2 e=1", "d/ d/x=2 e=2", "e:A", "d/ d/x=2 e=1"},
	})
}

// P12.1: names come in the order of their bytes, each once, and what is below a name comes with it.
func TestOrder(t *testing.T) {
	checkRows(t, []row{
		{"b=1 d=1", "a=1 d=1", "c=1 d=1 e=1", "a:B b:= c:A e:A", "d=1"},
		{"", "a/ a/z=1 a!=1 a.b=1 ab=1", "a/", "a/z:B a!:B a.b:B ab:B", "a/"},
		{"", "B=1 a/ a/b/ a/b/c=1 a/b.c=1", "a/ a/b/ a.=1 é=1", "B:B a/b/c:B a/b.c:B a.:A é:A", "a/ a/b/"},
		{"x/ x/c=1", "x/ x/a=1", "x/ x/b=1 y/", "x/a:B x/b:A x/c:= y:A", "x/"},
		{"z=1 é=1", "z=2 è=1", "~=1", "z:! ~:A è:B é:=", "z=1"},
	})
}

// someValues are what may stand at a path named x.
func someValues() []string {
	return []string{"", "x=1", "x=2", "x*1", "x>1", "x>2", "x/", "x/ x/y=1", "x/ x/y=2", "x/ x/y>1", "x/ x/y/", "x/ x/y/ x/y/z=1", "x/ x/y=1 x/z=1", "x/ x/z=1", "x/ x/y/ x/y/z=1 x/z/"}
}

// P12.1: all threes of these values, alone, beside what is the same, and beside what isn't.
func TestAllValues(t *testing.T) {
	for _, o := range someValues() {
		for _, a := range someValues() {
			for _, b := range someValues() {
				for _, x := range []three{of(o, a, b), of("w=1 "+o, "w=1 "+a, "w=1 "+b), of("w=1 "+o, "w=2 "+a, "w=3 "+b), of(o, a, b+" x!=1")} {
					want(t, x, slowItems(x), slowAgree(x))
				}
			}
		}
	}
}

// noTrees are lists that are no trees, each by one fault.
func noTrees() [][]api.Node {
	wrong := [][]api.Node{
		made("b=1 a=1"), made("a=1 a=1"), made("a/ a=1"), made("a/b=1"), made("a=1 a/b=1"), made("a>b a/b=1"), made("a/ a!=1 a/b=1"), made("a/ b=1 a/c=1"),
		{{Path: "", Kind: api.Dir}}, {{Path: "/a", Kind: api.File}}, {{Path: "a//b", Kind: api.File}}, {{Path: "..", Kind: api.Dir}}, {{Path: "a\x00", Kind: api.Dir}},
		{{Path: "\xff", Kind: api.File}}, {{Path: strings.Repeat("a", 65), Kind: api.File}},
		{{Path: "a"}}, {{Path: "a", Kind: 4}}, {{Path: "a", Kind: -1}}, {{Path: "a", Kind: api.File, Mode: 512}}, {{Path: "a", Kind: api.File, Mode: -1}},
		{{Path: "a", Kind: api.Dir, Mode: 1}}, {{Path: "a", Kind: api.Dir, Data: "x"}}, {{Path: "a", Kind: api.Link}}, {{Path: "a", Kind: api.Link, Data: "x", Mode: 1}},
		{{Path: "a", Kind: api.Link, Data: strings.Repeat("x", 401)}}, {{Path: "a", Kind: api.Link, Data: "\x00"}},
		{{Path: "a", Kind: api.File, Data: strings.Repeat("x", 65537)}},
	}
	return append(wrong, wide(1001), append(made("a/"), deep(17)...))
}

// wide is a list of n files in the root (n up to 9000).
func wide(n int) []api.Node { return under("", n) }

// under is a list of n files (n up to 9000) with paths that begin with these bytes.
func under(start string, n int) []api.Node {
	var l []api.Node
	for i := range n {
		l = append(l, api.Node{Path: start + strconv.Itoa(1000+i), Kind: api.File, Data: "1"})
	}
	return l
}

// deep is n directories, each within the one ahead of it, whose names are as long as all may be at depth 16.
func deep(n int) []api.Node {
	var l []api.Node
	path := ""
	for range n {
		path = strings.TrimPrefix(path+"/"+strings.Repeat("d", 24), "/")
		l = append(l, api.Node{Path: path, Kind: api.Dir})
	}
	return l
}

// P12.1: what is no tree, in each of the three places, with nothing beside the error.
func TestNoTree(t *testing.T) {
	for i, l := range noTrees() {
		for j, x := range []three{{l, nil, nil}, {nil, l, nil}, {nil, nil, l}, {l, made("x=1"), made("x=1")}, {made("x=1"), l, made("x=1")}, {made("x=1"), made("x=1"), l}, {nil, l, l}, {l, l, nil}, {l, nil, l}, {l, l, l}} {
			items, e := recon.Items(x.o, x.a, x.b)
			agreed, e2 := recon.Agree(x.o, x.a, x.b)
			if e != api.ErrTree || e2 != api.ErrTree || len(items) > 0 || len(agreed) > 0 {
				t.Errorf("list %d, place %d: %v, %d; %v, %d", i, j, items, e, agreed, e2)
			}
		}
	}
}

// P12.1: as many nodes as may be.
func TestMostNodes(t *testing.T) {
	full := wide(1000)
	want(t, three{full, full, full}, nil, full)
	want(t, three{nil, full, full}, []api.Item{{Path: "", What: api.Agreed}}, full)
	var toB, toA, agreed []api.Item
	for i, n := range full {
		toB, toA = append(toB, api.Item{Path: n.Path, What: api.ToB}), append(toA, api.Item{Path: n.Path, What: api.ToA})
		if i > 0 {
			agreed = append(agreed, api.Item{Path: n.Path, What: api.Agreed})
		}
	}
	want(t, three{nil, full, nil}, toB, nil)
	want(t, three{full, nil, full}, toB, full)
	want(t, three{full, full, nil}, toA, full)
	want(t, three{full, full[:1], nil}, append([]api.Item{toA[0]}, agreed...), full[:1])
	others := under("x", 1000)
	want(t, three{nil, full, others}, append(slices.Clone(toB), slowItems(three{nil, nil, others})...), nil)
}

// P12.1: as deep as may be, with paths as long as may be (16 names of 24 bytes are one byte short of it).
func TestDeepest(t *testing.T) {
	dirs := deep(16)
	last := dirs[15].Path + "d"
	leaf := append(slices.Clone(dirs[:15]), api.Node{Path: last, Kind: api.File, Data: "1"})
	other := append(slices.Clone(dirs[:15]), api.Node{Path: last, Kind: api.Dir})
	want(t, three{leaf, leaf, other}, []api.Item{{Path: last, What: api.ToA}}, leaf)
	want(t, three{nil, leaf, other}, []api.Item{{Path: last, What: api.Clash}}, dirs[:15])
	want(t, three{leaf, dirs[:15], dirs}, []api.Item{{Path: dirs[15].Path, What: api.ToA}, {Path: last, What: api.Agreed}}, dirs[:15])
	want(t, three{leaf, leaf, nil}, []api.Item{{Path: dirs[0].Path, What: api.ToA}}, leaf)
}

// P12.1: texts that are as long as may be, and unlike in the last byte alone.
func TestLongestData(t *testing.T) {
	data := strings.Repeat("x", 65535)
	one := []api.Node{{Path: "f", Kind: api.File, Data: data + "1"}}
	two := []api.Node{{Path: "f", Kind: api.File, Data: data + "2"}}
	want(t, three{one, two, one}, []api.Item{{Path: "f", What: api.ToB}}, one)
	want(t, three{nil, one, two}, []api.Item{{Path: "f", What: api.Clash}}, nil)
	want(t, three{one, two, two}, []api.Item{{Path: "", What: api.Agreed}}, two)
}

// P12.1: what is agreed on may be more than a tree can hold: the list is answered all the same.
func TestMoreThanATree(t *testing.T) {
	old := append(made("c/"), under("c/", 600)...)
	same := append(made("s/"), under("s/", 600)...)
	x := three{old, append(made("c=1"), same...), append(made("c=2"), same...)}
	agreed := slices.Concat(old, same)
	want(t, x, []api.Item{{Path: "c", What: api.Clash}, {Path: "s", What: api.Agreed}}, agreed)
	just := three{old, append(made("c=1"), same[:399]...), append(made("c=2"), same[:399]...)}
	want(t, just, []api.Item{{Path: "c", What: api.Clash}, {Path: "s", What: api.Agreed}}, append(slices.Clone(old), same[:399]...))
	if _, e := recon.Items(agreed, nil, nil); e != api.ErrTree || tree.Check(agreed) == api.OK {
		t.Errorf("%d nodes are a tree: %d", len(agreed), e)
	}
}

// anyTree is a tree of a few names, of which some begin with others, with any kinds.
func anyTree(dice *rand.Rand, count int) []api.Node {
	var l []api.Node
	for range dice.Intn(count + 1) {
		l = changed(dice, l)
	}
	return l
}

// changed is a tree with another value somewhere.
func changed(dice *rand.Rand, l []api.Node) []api.Node {
	dirs := []string{""}
	for _, n := range l {
		if n.Kind == api.Dir {
			dirs = append(dirs, n.Path)
		}
	}
	names := []string{"a", "a!", "a.b", "b", "é"}
	path := strings.TrimPrefix(dirs[dice.Intn(len(dirs))]+"/"+names[dice.Intn(len(names))], "/")
	u, e := tree.Put(l, path, anyValue(dice))
	if e != api.OK {
		return l
	}
	return u
}

// anyValue is nothing, a file, a link, or a directory that is empty as a rule.
func anyValue(dice *rand.Rand) []api.Node {
	values := [][]api.Node{nil, {{Kind: api.File, Data: "1"}}, {{Kind: api.File, Data: "2"}}, {{Kind: api.File, Data: "1", Mode: 1}}, {{Kind: api.Link, Data: "1"}}}
	at := dice.Intn(len(values) + 4)
	switch {
	case at < len(values):
		return values[at]
	case at == len(values):
		return append([]api.Node{{Kind: api.Dir}}, anyTree(dice, 4)...)
	}
	return []api.Node{{Kind: api.Dir}}
}

// anyThree is a tree and two that have come of it by changes, of which both have made some.
func anyThree(dice *rand.Rand) three {
	o := anyTree(dice, 14)
	if dice.Intn(10) == 0 {
		return three{o, anyTree(dice, 14), anyTree(dice, 14)}
	}
	a, b := o, o
	for range dice.Intn(7) {
		seed := dice.Int63()
		which := dice.Intn(3)
		if which != 0 {
			a = changed(rand.New(rand.NewSource(seed)), a)
		}
		if which != 1 {
			b = changed(rand.New(rand.NewSource(seed)), b)
		}
	}
	return three{o, a, b}
}

// eachThree asks of many threes.
func eachThree(seed int64, count int, ask func(x three)) {
	dice := rand.New(rand.NewSource(seed))
	for range count {
		ask(anyThree(dice))
	}
}

// P12.1: any trees, as by the slow way; and the threes are of all kinds.
func TestAnyTrees(t *testing.T) {
	count := map[int]int{}
	below := 0
	eachThree(1, 5000, func(x three) {
		items := slowItems(x)
		want(t, x, items, slowAgree(x))
		for _, i := range items {
			count[i.What]++
			below += min(1, strings.Count(i.Path, "/"))
		}
	})
	for what := api.Agreed; what <= api.Clash; what++ {
		if count[what] < 500 || below < 2000 {
			t.Errorf("too few of kind %d: %v, below the root's names %d", what, count, below)
		}
	}
}

// P12.2: with A and B exchanged ToA and ToB are exchanged, and nothing else.
func TestEven(t *testing.T) {
	eachThree(2, 6000, func(x three) {
		items, agreed := asked(t, x)
		turnedItems, turnedAgreed := asked(t, turned(x))
		if words(turnedItems) != turnedWords(words(items)) || !slices.Equal(turnedAgreed, agreed) {
			t.Fatalf("%s: %s, turned %s; %v, turned %v", told(x), words(items), words(turnedItems), agreed, turnedAgreed)
		}
	})
}

// within tells whether a path is one of the items' paths or below it.
func within(path string, items []api.Item) bool {
	return slices.ContainsFunc(items, func(i api.Item) bool {
		return i.Path == "" || path == i.Path || strings.HasPrefix(path, i.Path+"/")
	})
}

// outside is a list without what is within the items' paths.
func outside(l []api.Node, items []api.Item) []api.Node {
	return slices.DeleteFunc(slices.Clone(l), func(n api.Node) bool { return within(n.Path, items) })
}

// clashes are those of the items.
func clashes(items []api.Item) []api.Item {
	return slices.DeleteFunc(slices.Clone(items), func(i api.Item) bool { return i.What != api.Clash })
}

// put puts a value of one tree into another's place.
func put(t *testing.T, to, from []api.Node, path string) []api.Node {
	t.Helper()
	l, e := tree.Put(to, path, tree.At(from, path))
	if e != api.OK {
		t.Fatalf("what stands at %q in %v can't be put into %v: %d", path, from, to, e)
	}
	return l
}

// settled is three trees behind what the items ask for, with what is then agreed on in O's place.
func settled(t *testing.T, x three) three {
	t.Helper()
	items, _ := asked(t, x)
	y := x
	for _, i := range items {
		switch i.What {
		case api.ToB:
			y.b = put(t, y.b, x.a, i.Path)
		case api.ToA:
			y.a = put(t, y.a, x.b, i.Path)
		}
	}
	_, y.o = asked(t, y)
	return y
}

// P12.3: behind what the items ask for there are just the clashes, and what is agreed on is all that is the same.
func TestItEnds(t *testing.T) {
	left := 0
	eachThree(3, 6000, func(x three) {
		items, _ := asked(t, x)
		y := settled(t, x)
		rest, agreed := asked(t, y)
		left += len(rest)
		if !slices.Equal(rest, clashes(items)) {
			t.Fatalf("%s: items %s, and then %s", told(x), words(items), words(rest))
		}
		if !slices.Equal(agreed, y.o) || !slices.Equal(outside(agreed, rest), outside(y.a, rest)) || !slices.Equal(outside(agreed, rest), outside(y.b, rest)) {
			t.Fatalf("%s: what is then agreed on is %v, of %s", told(x), agreed, told(y))
		}
		for _, i := range rest {
			if !slices.Equal(tree.At(agreed, i.Path), tree.At(x.o, i.Path)) {
				t.Fatalf("%s: at %q %v is agreed on", told(x), i.Path, tree.At(agreed, i.Path))
			}
		}
	})
	if left < 1000 {
		t.Errorf("only %d clashes were left", left)
	}
}

// P12.4: no item's path is within another's, and outside of them A and B have the same nodes; of these and what both have changed to, is agreed on.
func TestApart(t *testing.T) {
	eachThree(4, 6000, func(x three) {
		items, agreed := asked(t, x)
		for i, one := range items {
			others := slices.Delete(slices.Clone(items), i, i+1)
			if within(one.Path, others) {
				t.Fatalf("%s: %q is within another of %s", told(x), one.Path, words(items))
			}
		}
		if !slices.Equal(outside(x.a, items), outside(x.b, items)) || !slices.Equal(outside(x.a, items), outside(agreed, items)) {
			t.Fatalf("%s: outside of %s A and B differ, or what is agreed on", told(x), words(items))
		}
	})
}

// behind is a list with room behind it, which has something in it.
func behind(l []api.Node) []api.Node {
	room := slices.Grow(slices.Clone(l), 20)[:len(l)+20]
	for i := len(l); i < len(room); i++ {
		room[i] = api.Node{Path: "spare", Kind: i}
	}
	return room[:len(l)]
}

// spoil changes all that a list has, and the room behind it.
func spoil[T any](l []T, with T) {
	l = l[:cap(l)]
	for i := range l {
		l[i] = with
	}
}

// P12.5: what is handed in stays as it was, with the room behind it, and isn't kept; answers are new memory.
func TestMemory(t *testing.T) {
	spoilt := api.Node{Path: "spoilt", Kind: api.File}
	for _, x := range []three{of("x=1", "x/ x/y=1", "x/ x/z=1 y=1"), of("x=1", "x=2", "x=2"), of("x/ x/y=1", "x=1", "x=2 z/"), of("x=1", "x=1", "x=1"), of("w=1 x/ x/y/", "w=2 x/ x/y/", "x/ x/y/ x/y/z=1"), {noTrees()[0], nil, nil}} {
		in := three{behind(x.o), behind(x.a), behind(x.b)}
		items, e := recon.Items(in.o, in.a, in.b)
		agreed, _ := recon.Agree(in.o, in.a, in.b)
		again, _ := recon.Items(in.o, in.a, in.b)
		agreedAgain, _ := recon.Agree(in.o, in.a, in.b)
		keptItems, keptAgreed := slices.Clone(items), slices.Clone(agreed)
		spoil(again, api.Item{Path: "spoilt"})
		spoil(agreedAgain, spoilt)
		for i, l := range [][]api.Node{in.o, in.a, in.b} {
			was := [][]api.Node{x.o, x.a, x.b}[i]
			if !slices.Equal(l[:len(l)+20], behind(was)[:len(was)+20]) {
				t.Errorf("%s: list %d was changed: %v", told(x), i, l)
			}
			spoil(l, spoilt)
		}
		if !slices.Equal(items, keptItems) || !slices.Equal(agreed, keptAgreed) {
			t.Errorf("%s: an answer has changed: %v, %v", told(x), items, agreed)
		}
		if e == api.OK {
			want(t, x, keptItems, keptAgreed)
		}
	}
}
