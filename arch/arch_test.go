package arch_test

import (
	"fmt"
	"math"
	"math/rand"
	"reflect"
	"slices"
	"strings"
	"testing"

	"hawser/api"
	"hawser/arch"
	"hawser/rec"
	"hawser/tree"
)

const (
	abcPrint  = "ba7816bf8f01cfea414140de5dae2223b00361a396177a9cb410ff61f20015ad"
	nonePrint = "e3b0c44298fc1c149afbf4c8996fb92427ae41e4649b934ca495991b7852b855"
)

func dir(path string) api.Node { return api.Node{Path: path, Kind: api.Dir} }
func file(path, data string) api.Node {
	return api.Node{Path: path, Kind: api.File, Data: data, Mode: 420}
}
func link(path, to string) api.Node     { return api.Node{Path: path, Kind: api.Link, Data: to} }
func list(nodes ...api.Node) []api.Node { return nodes }
func rep(s string, n int) string        { return strings.Repeat(s, n) }

// told is the beginning of a value, for messages.
func told(x any) string { return fmt.Sprintf("%.400q", fmt.Sprintf("%+v", x)) }

// some is a tree with all kinds.
func some() []api.Node {
	return list(dir("a"), file("a/b", "abc"), dir("a/c"), link("a/c/d", "abc"), file("a/c/e", ""), file("a.b", abcPrint), file("é", "\xff\x00"))
}

// greatest is a tree of as many nodes as may be, with paths as long as they may be.
func greatest() []api.Node {
	var t []api.Node
	above := ""
	for range 5 {
		above += rep("d", 64)
		t = append(t, dir(above))
		above += "/"
	}
	above += rep("d", 10)
	t = append(t, dir(above))
	for i := len(t); i < api.MaxNodes; i++ {
		t = append(t, file(fmt.Sprintf("%s/%064d", above, i), "x"))
	}
	return t
}

// trees are of each kind, and at the edges of what may be.
func trees() [][]api.Node {
	return [][]api.Node{
		nil, {}, some(), greatest(), list(dir("a")), list(file("a", "")), list(link("a", "b")), list(dir("a"), dir("a/b"), file("a/b/c", "x")),
		list(file("a", rep("x", api.MaxData))), list(link("a", rep("x", api.MaxPath))), list(api.Node{Path: "a", Kind: api.File, Mode: 511}),
	}
}

// noTrees are lists that are no trees.
func noTrees() [][]api.Node {
	return [][]api.Node{
		{{}}, list(file("", "x")), list(file("a/b", "x")), list(file("b", ""), file("a", "")), list(file("a", ""), file("a", "")), list(file("a", ""), file("a/b", "")),
		list(link("a", "")), list(link("a", "\x00")), list(link("a", rep("x", api.MaxPath+1))), list(file("a", rep("x", api.MaxData+1))),
		list(api.Node{Path: "a", Kind: api.File, Mode: 512}), list(api.Node{Path: "a", Kind: api.File, Mode: -1}), list(api.Node{Path: "a", Kind: 4}), list(api.Node{Path: "a", Kind: api.Dir, Mode: 1}), list(api.Node{Path: "a", Kind: api.Dir, Data: nonePrint}),
		append(greatest(), file("e", "")), list(file("ok", ""), api.Node{Path: "zz"}),
	}
}

// bared is a tree made bare, by the program.
func bared(t []api.Node) []api.Node {
	b, _ := arch.Bare(t)
	return b
}

// stamps are n stamps of unlike numbers.
func stamps(n int) []api.Stamp {
	var all []api.Stamp
	for i := range n {
		all = append(all, api.Stamp{Ino: i, Size: 1000 * i, Time: 128 + i<<40})
	}
	return all
}

// archive is a right one of a tree.
func archive(t []api.Node) api.Archive {
	return api.Archive{Pair: "home", Serial: 7, Tree: slowBare(t), Stamps: stamps(len(t))}
}

// with is the archive of some, changed.
func with(change func(a *api.Archive)) api.Archive {
	a := archive(some())
	change(&a)
	return a
}

// rightOnes are archives that are right.
func rightOnes() []api.Archive {
	var all []api.Archive
	for _, t := range trees() {
		all = append(all, archive(t))
	}
	for _, pair := range []string{"p", "\x00", "\xff", "a b\n", rep("p", 64), rep("\x00", 64)} {
		all = append(all, with(func(a *api.Archive) { a.Pair = pair }))
	}
	for _, n := range []int{0, 1, 127, 128, 16383, 16384, math.MaxInt32, math.MaxInt32 + 1, math.MaxInt} {
		all = append(all,
			with(func(a *api.Archive) { a.Serial = n }), with(func(a *api.Archive) { a.Stamps[1].Ino = n }),
			with(func(a *api.Archive) { a.Stamps[2].Size = n }), with(func(a *api.Archive) { a.Stamps[6].Time = n }))
	}
	most := archive(greatest())
	most.Pair, most.Serial = rep("p", 64), math.MaxInt
	for i := range most.Stamps {
		most.Stamps[i] = api.Stamp{Ino: math.MaxInt, Size: math.MaxInt, Time: math.MaxInt}
	}
	return append(all, most)
}

// wrongOnes are archives that are not.
func wrongOnes() []api.Archive {
	all := []api.Archive{
		{}, {Tree: list(dir("a")), Stamps: stamps(1)},
		with(func(a *api.Archive) { a.Pair = "" }), with(func(a *api.Archive) { a.Pair = rep("p", 65) }),
		with(func(a *api.Archive) { a.Stamps = nil }), with(func(a *api.Archive) { a.Stamps = a.Stamps[1:] }),
		with(func(a *api.Archive) { a.Stamps = append(a.Stamps, api.Stamp{}) }),
		with(func(a *api.Archive) { a.Tree = nil }), with(func(a *api.Archive) { a.Tree = some() }),
		with(func(a *api.Archive) { a.Tree[1].Data = "" }), with(func(a *api.Archive) { a.Tree[1].Mode = 512 }),
		with(func(a *api.Archive) { a.Tree[0].Data = nonePrint }), with(func(a *api.Archive) { slices.Reverse(a.Tree) }),
	}
	for _, n := range []int{-1, math.MinInt, math.MinInt + 1} {
		all = append(all,
			with(func(a *api.Archive) { a.Serial = n }), with(func(a *api.Archive) { a.Stamps[0].Ino = n }),
			with(func(a *api.Archive) { a.Stamps[3].Size = n }), with(func(a *api.Archive) { a.Stamps[6].Time = n }))
	}
	for _, t := range noTrees() {
		all = append(all, api.Archive{Pair: "p", Tree: t, Stamps: stamps(len(t))}, archive(t))
	}
	// With fingerprints in the place of data that may not be, some of those lists are bare trees.
	return slices.DeleteFunc(all, slowRight)
}

// P9.1: Bare, of data whose fingerprints are known, and of a tree's edges.
func TestBare(t *testing.T) {
	for _, x := range []struct{ in, want api.Node }{
		{file("a", "abc"), file("a", abcPrint)},
		{link("a", "abc"), link("a", abcPrint)},
		{file("a", ""), file("a", nonePrint)},
		{dir("a"), dir("a")},
		{file("a", abcPrint), file("a", "dfe7a23fefeea519e9bbfdd1a6be94c4b2e4529dd6b7cbea83f9959c2621b13c")},
		{api.Node{Path: "é", Kind: api.File, Data: "abc", Mode: 511}, api.Node{Path: "é", Kind: api.File, Data: abcPrint, Mode: 511}},
	} {
		if b, e := arch.Bare(list(x.in)); e != api.OK || !slices.Equal(b, list(x.want)) {
			t.Errorf("Bare of %s is %s, %d", told(x.in), told(b), e)
		}
	}
	for _, tr := range trees() {
		if b, e := arch.Bare(tr); e != api.OK || !slices.Equal(b, slowBare(tr)) || !arch.IsBare(b) || tree.Check(b) != api.OK {
			t.Errorf("Bare of %s is %s, %d", told(tr), told(b), e)
		}
	}
}

// P9.1: of what is no tree nothing is answered.
func TestNoTree(t *testing.T) {
	for _, l := range noTrees() {
		if b, e := arch.Bare(l); e != api.ErrTree || len(b) != 0 {
			t.Errorf("Bare of %s is %s, %d", told(l), told(b), e)
		}
		if arch.IsBare(l) || arch.IsBare(slowBare(l)) && tree.Check(slowBare(l)) != api.OK {
			t.Errorf("%s is bare", told(l))
		}
	}
}

// P9.1: IsBare, of texts that are just not fingerprints.
func TestIsBare(t *testing.T) {
	for at := range 64 {
		for b := range 256 {
			data := abcPrint[:at] + string([]byte{byte(b)}) + abcPrint[at+1:]
			want := strings.IndexByte("0123456789abcdef", byte(b)) >= 0
			for _, n := range []api.Node{file("a", data), link("a", data)} {
				if arch.IsBare(list(n)) != want {
					t.Errorf("%q is a fingerprint: %t", data, !want)
				}
			}
		}
	}
	for _, data := range []string{"", "0", abcPrint[1:], abcPrint + "0", abcPrint + "\n", " " + abcPrint, strings.ToUpper(abcPrint), rep("é", 32), rep("٣", 32), "0x" + abcPrint[2:], rep(abcPrint, 2)} {
		if arch.IsBare(list(file("a", data))) || arch.IsBare(list(link("a", data))) || arch.IsBare(list(file("a", abcPrint), link("b", data))) {
			t.Errorf("%q is a fingerprint", data)
		}
	}
	for _, tr := range trees() {
		if got, want := arch.IsBare(tr), slowIsBare(tr); got != want {
			t.Errorf("%s is bare: %t", told(tr), got)
		}
	}
	if !arch.IsBare(nil) || !arch.IsBare(list(dir("a"), file("a/b", abcPrint), link("c", nonePrint))) {
		t.Error("not bare")
	}
}

// P9.1: Check and Encode of what is right.
func TestRight(t *testing.T) {
	for _, a := range rightOnes() {
		if e := arch.Check(a); e != api.OK {
			t.Errorf("Check of %s is %d", told(a), e)
		}
		want, _ := slowEncode(a)
		if s, e := arch.Encode(a); e != api.OK || s != want {
			t.Errorf("Encode of %s is %.80q, %d", told(a), s, e)
		}
		if !arch.Match(a, a) {
			t.Errorf("%s doesn't match itself", told(a))
		}
	}
}

// P9.1: Check, Encode, Decode and Match of what isn't.
func TestWrong(t *testing.T) {
	right := archive(some())
	for _, a := range wrongOnes() {
		if e := arch.Check(a); e != api.ErrDamaged {
			t.Errorf("Check of %s is %d", told(a), e)
		}
		if s, e := arch.Encode(a); e != api.ErrDamaged || s != "" {
			t.Errorf("Encode of %s is %.80q, %d", told(a), s, e)
		}
		if arch.Match(a, a) || arch.Match(a, right) || arch.Match(right, a) {
			t.Errorf("%s matches", told(a))
		}
		if len(a.Stamps) == len(a.Tree) {
			// Well written, had it been right.
			checkRefused(t, record(slowPayload(a)))
		}
	}
}

// checkRefused asks Decode of what is no archive's bytes.
func checkRefused(t *testing.T, s string) {
	t.Helper()
	if a, e := arch.Decode(s); e != api.ErrDamaged || !reflect.DeepEqual(a, api.Archive{}) {
		t.Errorf("Decode of %.200q is %s, %d", s, told(a), e)
	}
}

// P9.1: the bytes of an archive, one by one.
func TestBytes(t *testing.T) {
	a := api.Archive{Pair: "pq", Serial: 300, Tree: list(dir("d"), api.Node{Path: "d/f", Kind: api.File, Mode: 420, Data: abcPrint}, link("l", nonePrint)), Stamps: []api.Stamp{{}, {Ino: 1, Size: 128, Time: 2}, {Ino: 127, Size: 5, Time: 16384}}}
	want := "\x08hawser 1\x02pq\xac\x02\x03" +
		"\x01d\x02\x00\x00\x00\x00\x00" +
		"\x03d/f\x01\xa4\x03\x40" + abcPrint + "\x01\x80\x01\x02" +
		"\x01l\x03\x00\x40" + nonePrint + "\x7f\x05\x80\x80\x01"
	s, e := arch.Encode(a)
	if e != api.OK || s != record(want) {
		t.Errorf("Encode is %q, %d", s, e)
	}
	if p, f := rec.One(s); p != want || f != api.OK {
		t.Errorf("One is %q, %d", p, f)
	}
	if b, e := arch.Decode(record(want)); e != api.OK || !sameArchive(a, b) {
		t.Errorf("Decode is %s, %d", told(b), e)
	}
	if b, e := arch.Decode(record("\x08hawser 1\x01p\x00\x00")); e != api.OK || !sameArchive(b, api.Archive{Pair: "p"}) {
		t.Errorf("Decode of an archive of nothing is %s, %d", told(b), e)
	}
}

// P9.1: Decode of records whose payloads are of another form.
func TestDecodeForms(t *testing.T) {
	one := "\x01a\x02\x00\x00\x00\x00\x00"
	right := "\x08hawser 1\x01p\x00\x01" + one
	if _, e := arch.Decode(record(right)); e != api.OK {
		t.Fatal(e)
	}
	for _, s := range []string{
		"", "\x00", "\x00\x00\x00\x00", right, record(right) + "\x00", record(right) + record(right), "\x00" + record(right), record(right)[1:], record(record(right)),
		record(""), record("\x08hawser 1"), record("\x08hawser 2\x01p\x00\x01" + one), record("\x08Hawser 1\x01p\x00\x01" + one), record("\x07hawser \x01p\x00\x01" + one), record("\x09hawser 1\n\x01p\x00\x01" + one), record("hawser 1\x01p\x00\x01" + one), record("\x00\x01p\x00\x01" + one),
		record("\x88\x00hawser 1\x01p\x00\x01" + one), record("\x08hawser 1\x81\x00p\x00\x01" + one), record("\x08hawser 1\x01p\x80\x00\x01" + one), record("\x08hawser 1\x01p\x00\x81\x00" + one),
		record("\x08hawser 1\x00\x00\x01" + one), record("\x08hawser 1\x41" + rep("p", 65) + "\x00\x01" + one), record("\x08hawser 1\x01p" + rep("\xff", 9) + "\x01\x01" + one),
		record(right + "\x00"), record(right + one), record(right[:len(right)-1]), record("\x08hawser 1\x01p\x00\x02" + one), record("\x08hawser 1\x01p\x00\x00" + one), record("\x08hawser 1\x01p\x00\xe9\x07" + one), record("\x08hawser 1\x01p\x00" + rep("\xff", 8) + "\x7f" + one),
		record("\x08hawser 1\x01p\x00\x02" + one + one), record("\x08hawser 1\x01p\x00\x01" + "\x01a\x01\x00\x40" + strings.ToUpper(abcPrint) + "\x00\x00\x00"), record("\x08hawser 1\x01p\x00\x01" + "\x01a\x01\x00\x41" + abcPrint + "0\x00\x00\x00"), record("\x08hawser 1\x01p\x00\x01" + "\x01a\x01\x80\x04\x40" + abcPrint + "\x00\x00\x00"),
	} {
		checkRefused(t, s)
	}
}

// P9.1: one node more than may be, well written in all else.
func TestTooMany(t *testing.T) {
	tr := append(slowBare(greatest()), file("e", abcPrint))
	a := api.Archive{Pair: "p", Tree: tr, Stamps: stamps(len(tr))}
	checkRefused(t, record(slowPayload(a)))
	a.Tree, a.Stamps = tr[:api.MaxNodes], a.Stamps[:api.MaxNodes]
	if b, e := arch.Decode(record(slowPayload(a))); e != api.OK || !sameArchive(a, b) {
		t.Error(told(b), e)
	}
}

// P9.1: each beginning of an archive's bytes and of its payload is refused, and each with a byte less or more anywhere is told as by the slow reading.
func TestDecodeAsSlow(t *testing.T) {
	whole := slowPayload(archive(some()[:5]))
	for at := range len(whole) {
		checkRefused(t, record(whole)[:at])
		checkRefused(t, record(whole[:at]))
		checkDecode(t, record(whole[:at]+whole[at+1:]))
		for _, b := range []byte{0, 1, 2, 3, 64, 'a', 127, 128, 255} {
			checkDecode(t, record(whole[:at]+string([]byte{b})+whole[at:]))
		}
		for b := range 256 {
			checkDecode(t, record(whole[:at]+string([]byte{byte(b)})+whole[at+1:]))
		}
	}
}

// checkDecode holds Decode against the slow one, and Encode against what it has taken (P9.2).
func checkDecode(t *testing.T, s string) bool {
	t.Helper()
	want, wantError := slowDecode(s)
	a, e := arch.Decode(s)
	if e != wantError || !sameArchive(a, want) {
		t.Errorf("Decode of %.200q is %s, %d, not %s, %d", s, told(a), e, told(want), wantError)
	}
	if e != api.OK {
		return false
	}
	if again, e := arch.Encode(a); again != s || e != api.OK {
		t.Errorf("Encode of Decode of %.200q is %.200q, %d", s, again, e)
	}
	return true
}

// anyTree is a tree of up to most nodes, of few names and few data.
func anyTree(dice *rand.Rand, most int) []api.Node {
	var t []api.Node
	for range dice.Intn(most + 1) {
		path := []string{"a", "b", "a/b", "a/c", "a.b", "b/a", "a/b/c", "é"}[dice.Intn(8)]
		data := []string{"", "x", "y", abcPrint}[dice.Intn(4)]
		n := []api.Node{dir(path), file(path, data), link(path, data), {Path: path, Kind: api.File, Data: data}}[dice.Intn(4)]
		n.Path = ""
		if u, e := tree.Put(t, path, list(n)); e == api.OK {
			t = u
		}
	}
	return t
}

// anyArchive is an archive that is mostly right.
func anyArchive(dice *rand.Rand) api.Archive {
	tr := anyTree(dice, 8)
	a := api.Archive{Pair: []string{"p", "q", rep("p", 64)}[dice.Intn(3)], Serial: dice.Intn(3), Tree: slowBare(tr)}
	for range tr {
		a.Stamps = append(a.Stamps, api.Stamp{Ino: dice.Int() >> dice.Intn(64), Size: dice.Int() >> dice.Intn(64), Time: dice.Int() >> dice.Intn(64)})
	}
	if dice.Intn(8) == 0 {
		a.Serial = -a.Serial
	}
	if len(tr) > 0 && dice.Intn(8) == 0 {
		at := dice.Intn(len(tr))
		a.Tree[at].Data = tr[at].Data
	}
	if len(tr) > 0 && dice.Intn(8) == 0 {
		a.Stamps[dice.Intn(len(tr))].Time *= -1
	}
	return a
}

// P9.1 and P9.2: any archives, right or not, and what is made of them and read back.
func TestAnyArchive(t *testing.T) {
	dice := rand.New(rand.NewSource(9))
	rights := 0
	for range 20000 {
		a := anyArchive(dice)
		want, wantError := slowEncode(a)
		if e := arch.Check(a); e != wantError {
			t.Fatalf("Check of %s is %d", told(a), e)
		}
		s, e := arch.Encode(a)
		if s != want || e != wantError {
			t.Fatalf("Encode of %s is %q, %d", told(a), s, e)
		}
		if e == api.OK {
			rights++
			checkBack(t, a)
		}
	}
	if rights < 5000 {
		t.Error(rights)
	}
}

// checkBack asks for what was encoded.
func checkBack(t *testing.T, a api.Archive) {
	t.Helper()
	s, _ := arch.Encode(a)
	if b, e := arch.Decode(s); e != api.OK || !sameArchive(a, b) || len(b.Stamps) != len(b.Tree) {
		t.Fatalf("Decode of Encode of %s is %s, %d", told(a), told(b), e)
	}
	checkDecode(t, s)
}

// P9.2: at the edges of what may be.
func TestBack(t *testing.T) {
	for _, a := range rightOnes() {
		checkBack(t, a)
	}
}

// P9.2: of any bytes that Decode takes.
func TestAnyBytes(t *testing.T) {
	dice := rand.New(rand.NewSource(99))
	taken := 0
	for range 20000 {
		a := anyArchive(dice)
		p := []byte(slowPayload(a))
		for range dice.Intn(4) {
			at := dice.Intn(len(p))
			switch dice.Intn(3) {
			case 0:
				p[at] = byte(dice.Intn(256))
			case 1:
				p[at] ^= 1 << dice.Intn(8)
			default:
				p = append(p, byte(dice.Intn(256)))
			}
		}
		if checkDecode(t, record(string(p))) {
			taken++
		}
		checkDecode(t, string(p))
	}
	if taken < 5000 {
		t.Error(taken)
	}
}

// P9.3: each byte of an archive's bytes as each other one.
func TestDamage(t *testing.T) {
	for _, tr := range [][]api.Node{nil, list(dir("a")), list(dir("a"), file("a/b", "x"), link("c", "a/b"))} {
		s, _ := arch.Encode(archive(tr))
		for at := range len(s) {
			for by := 1; by < 256; by++ {
				checkRefused(t, s[:at]+string([]byte{s[at] ^ byte(by)})+s[at+1:])
			}
		}
	}
}

// P9.3: bytes of a long archive.
func TestDamageOfLong(t *testing.T) {
	dice := rand.New(rand.NewSource(999))
	s, _ := arch.Encode(archive(greatest()))
	for i := range 120 {
		at := dice.Intn(len(s))
		if i < 12 {
			at = i
		}
		checkRefused(t, s[:at]+string([]byte{s[at] ^ byte(1+dice.Intn(255))})+s[at+1:])
	}
}

// P9.4: trees are the same just if they are the same made bare.
func TestSameBare(t *testing.T) {
	dice := rand.New(rand.NewSource(4))
	same := 0
	for range 30000 {
		a, b := anyTree(dice, 3), anyTree(dice, 3)
		want := slices.Equal(a, b)
		if tree.Same(bared(a), bared(b)) != want {
			t.Fatalf("%s and %s, made bare, are the same: %t", told(a), told(b), !want)
		}
		if want {
			same++
		}
	}
	if same < 100 {
		t.Error(same)
	}
	for _, x := range []struct{ a, b api.Node }{
		{file("a", "x"), file("a", "y")}, {file("a", ""), file("a", "\x00")}, {file("a", "abc"), file("a", abcPrint)}, {file("a", "x"), link("a", "x")},
		{link("a", "x"), link("a", "y")}, {file("a", ""), dir("a")}, {file("a", "x"), file("b", "x")}, {file("a", "x"), api.Node{Path: "a", Kind: api.File, Data: "x"}},
	} {
		if tree.Same(bared(list(x.a)), bared(list(x.b))) {
			t.Errorf("%s and %s, made bare, are the same", told(x.a), told(x.b))
		}
	}
}

// P9.1: Match, of archives that differ in one thing.
func TestMatch(t *testing.T) {
	a := archive(some())
	for i, x := range []struct {
		change func(a *api.Archive)
		want   bool
	}{
		{func(a *api.Archive) {}, true},
		{func(a *api.Archive) { a.Stamps[0].Ino++ }, true},
		{func(a *api.Archive) { a.Stamps = make([]api.Stamp, len(a.Tree)) }, true},
		{func(a *api.Archive) { a.Pair = "Home" }, false},
		{func(a *api.Archive) { a.Pair += "\x00" }, false},
		{func(a *api.Archive) { a.Serial++ }, false},
		{func(a *api.Archive) { a.Tree[1].Data = nonePrint }, false},
		{func(a *api.Archive) { a.Tree[1].Mode = 0 }, false},
		{func(a *api.Archive) { a.Tree[1].Path = "a/a" }, false},
		{func(a *api.Archive) { a.Tree[3].Kind = api.File }, false},
		{func(a *api.Archive) { a.Tree, a.Stamps = a.Tree[:6], a.Stamps[:6] }, false},
		{func(a *api.Archive) { a.Tree, a.Stamps = nil, nil }, false},
		{func(a *api.Archive) { a.Stamps[0].Ino = -1 }, false},
		{func(a *api.Archive) { a.Stamps = a.Stamps[1:] }, false},
	} {
		b := with(x.change)
		if arch.Match(a, b) != x.want || arch.Match(b, a) != x.want {
			t.Errorf("change %d matches: %t", i, !x.want)
		}
	}
	if arch.Match(api.Archive{}, api.Archive{}) {
		t.Error("two archives that aren't right match")
	}
	if !arch.Match(api.Archive{Pair: "p"}, api.Archive{Pair: "p", Tree: list(), Stamps: []api.Stamp{}}) {
		t.Error("two archives of nothing don't match")
	}
}

// P9.1: Match of any two.
func TestAnyMatch(t *testing.T) {
	dice := rand.New(rand.NewSource(7))
	matches := 0
	for range 20000 {
		a, b := anyArchive(dice), anyArchive(dice)
		if dice.Intn(2) == 0 {
			b.Tree, b.Stamps = slices.Clone(a.Tree), stamps(len(a.Tree))
		}
		want := slowMatch(a, b)
		if arch.Match(a, b) != want || arch.Match(b, a) != want {
			t.Fatalf("%s and %s match: %t", told(a), told(b), !want)
		}
		if want {
			matches++
		}
	}
	if matches < 500 {
		t.Error(matches)
	}
}

// R4: what is handed in is not changed, nor the room behind it, and what is answered is new memory with room of its own.
func TestMemory(t *testing.T) {
	tr := append(some(), file("room", "room"))
	ahead := slices.Clone(tr)
	b, _ := arch.Bare(tr[:7])
	b[1].Data = "mine"
	_ = append(b[:3], file("mine", "mine"))
	if !slices.Equal(tr, ahead) {
		t.Error("Bare shares or changes its list")
	}
	a := archive(tr)
	a.Tree, a.Stamps = a.Tree[:7], a.Stamps[:7]
	wasTree, wasStamps := slices.Clone(a.Tree[:8]), slices.Clone(a.Stamps[:8])
	s, _ := arch.Encode(a)
	arch.Check(a)
	arch.Match(a, a)
	arch.IsBare(a.Tree)
	one, _ := arch.Decode(s)
	two, _ := arch.Decode(s)
	one.Tree[0].Path, one.Stamps[0].Ino = "mine", 77
	_ = append(one.Tree[:2], file("mine", "mine"))
	_ = append(one.Stamps[:2], api.Stamp{Ino: 77})
	if !sameArchive(two, a) || !slices.Equal(a.Tree[:8], wasTree) || !slices.Equal(a.Stamps[:8], wasStamps) {
		t.Error("an archive shares or changes its lists")
	}
}

// R7: the same is answered however often it is asked.
func TestOneAnswer(t *testing.T) {
	a := archive(some())
	s, _ := arch.Encode(a)
	for range 3 {
		arch.Decode("\x00")
		arch.Encode(api.Archive{})
		again, e := arch.Encode(a)
		b, f := arch.Decode(s)
		if again != s || e != api.OK || f != api.OK || !sameArchive(a, b) {
			t.Error(e, f)
		}
	}
}
