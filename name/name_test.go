package name_test

import (
	"slices"
	"strings"
	"testing"

	"hawser/api"
	"hawser/name"
)

// rep is s, n times.
func rep(s string, n int) string { return strings.Repeat(s, n) }

// pathOf is a path of n names of one byte.
func pathOf(n int) string { return strings.TrimSuffix(rep("a/", n), "/") }

// pathLong is a path of 7 names and n bytes in all (n from 391 to 454).
func pathLong(n int) string { return rep(rep("a", 64)+"/", 6) + rep("b", n-6*65) }

// texts are all texts of at most most of these elements.
func texts(most int, elements ...string) []string {
	all := []string{""}
	last := all
	for range most {
		var next []string
		for _, s := range last {
			for _, e := range elements {
				next = append(next, s+e)
			}
		}
		all = append(all, next...)
		last = next
	}
	return all
}

// odd are texts with all that may be right or wrong of names and paths.
func odd() []string {
	all := texts(5, "a", "/", ".", "\x00", "é", "\xff")
	for _, n := range []int{1, 2, 15, 16, 17, 18} {
		all = append(all, pathOf(n), pathOf(n)+"/", "/"+pathOf(n), pathOf(n)+"/..")
	}
	for _, n := range []int{391, 399, 400, 401, 454} {
		all = append(all, pathLong(n))
	}
	for _, n := range []int{63, 64, 65, 400, 401, 100000} {
		all = append(all, rep("x", n), "d/"+rep("x", n), rep("x", n)+"/d", rep("/", n), rep("a/", n))
	}
	return all
}

// isName says with other means than the program what a name is.
func isName(s string) bool {
	for _, r := range s {
		if r == 0 || r == '/' {
			return false
		}
	}
	return len(s) >= 1 && len(s) <= 64 && strings.ToValidUTF8(s, "") == s && s != "." && s != ".."
}

// isPath says with other means than the program what a path is.
func isPath(s string) bool {
	names := strings.Split(s, "/")
	return len(s) <= 400 && len(names) <= 16 && !slices.ContainsFunc(names, func(n string) bool { return !isName(n) })
}

// P1.1: Name.
func TestName(t *testing.T) {
	for s, want := range map[string]bool{
		"a":                   true,
		" ":                   true,
		"\n":                  true,
		"\x01":                true,
		"\\":                  true,
		"...":                 true,
		".a":                  true,
		"a.":                  true,
		"..a":                 true,
		"é世😀":                 true,
		"\uFFFD":              true, // the rune itself, not a byte that is part of none
		rep("a", 64):          true,
		rep("é", 32):          true,
		"":                    false,
		".":                   false,
		"..":                  false,
		"/":                   false,
		"a/b":                 false,
		"a/":                  false,
		"/a":                  false,
		"\x00":                false,
		"a\x00":               false,
		"\x00a":               false,
		"\xff":                false,
		"a\xffb":              false,
		"\x80":                false,
		"a\xc3":               false, // a rune cut short
		"\xc0\x80":            false, // a 0 written too long
		"\xed\xa0\x80":        false, // half of a pair
		"\xf4\x90\x80\x80":    false, // behind the last rune
		rep("a", 65):          false,
		rep("é", 33):          false,
		rep("a", 63) + "é":    false,
		rep("a", 63) + "\xff": false,
		rep("a", 1<<20):       false,
	} {
		if name.Name(s) != want {
			t.Errorf("Name(%.80q) is not %v", s, want)
		}
	}
}

// P1.1: Path.
func TestPath(t *testing.T) {
	for s, want := range map[string]bool{
		"a":                     true,
		"a/b":                   true,
		".../.a":                true,
		"é/世":                   true,
		pathOf(16):              true,
		pathLong(400):           true,
		"d/" + rep("a", 64):     true,
		"":                      false,
		"/":                     false,
		"/a":                    false,
		"a/":                    false,
		"a//b":                  false,
		"a/.":                   false,
		"./a":                   false,
		"a/..":                  false,
		"../a":                  false,
		"a/../b":                false,
		"a/\x00":                false,
		"a/\xff":                false,
		"\xc3/\xa9":             false, // a rune torn apart
		pathOf(17):              false,
		pathLong(401):           false,
		"d/" + rep("a", 65):     false,
		rep("a", 65) + "/d":     false,
		pathLong(399) + "\xff":  false,
		rep("a/", 1<<20) + "a":  false,
		rep("a", 400):           false,
		rep("aa/", 15) + ".":    false,
		rep("aa/", 15) + "a.":   true,
		rep("a/", 15) + "\x00a": false,
	} {
		if name.Path(s) != want {
			t.Errorf("Path(%.80q) is not %v", s, want)
		}
	}
	if n := len(pathLong(400)); n != api.MaxPath {
		t.Errorf("the longest path has %d bytes", n)
	}
}

// P1.1: Name and Path of all short texts, and of long ones.
func TestNameAndPathOfAnyText(t *testing.T) {
	for _, s := range odd() {
		if name.Name(s) != isName(s) {
			t.Errorf("Name(%.80q) is not %v", s, isName(s))
		}
		if name.Path(s) != isPath(s) {
			t.Errorf("Path(%.80q) is not %v", s, isPath(s))
		}
	}
}

// P1.1: Split, Parent and Base.
func TestParts(t *testing.T) {
	for _, c := range []struct {
		p            string
		names        []string
		parent, base string
	}{
		{"a", []string{"a"}, "", "a"},
		{"a/b", []string{"a", "b"}, "a", "b"},
		{"a/b/c.d", []string{"a", "b", "c.d"}, "a/b", "c.d"},
		{"é/世", []string{"é", "世"}, "é", "世"},
		{pathOf(16), slices.Repeat([]string{"a"}, 16), pathOf(15), "a"},
		{pathLong(400), append(slices.Repeat([]string{rep("a", 64)}, 6), rep("b", 10)), pathLong(400)[:389], rep("b", 10)},
		{"", nil, "", ""},
		{"/", nil, "", ""},
		{"/a", nil, "", ""},
		{"a/", nil, "", ""},
		{"a//b", nil, "", ""},
		{"a/..", nil, "", ""},
		{"./a", nil, "", ""},
		{"..", nil, "", ""},
		{"a/\xff", nil, "", ""},
		{"\xff", nil, "", ""},
		{"a/b\x00", nil, "", ""},
		{pathOf(17), nil, "", ""},
		{pathLong(401), nil, "", ""},
		{"a/" + rep("b", 65), nil, "", ""},
	} {
		if got := name.Split(c.p); !slices.Equal(got, c.names) {
			t.Errorf("Split(%.80q) is %.80q", c.p, got)
		}
		if got := name.Parent(c.p); got != c.parent {
			t.Errorf("Parent(%.80q) is %.80q", c.p, got)
		}
		if got := name.Base(c.p); got != c.base {
			t.Errorf("Base(%.80q) is %.80q", c.p, got)
		}
	}
}

// P1.1: Join.
func TestJoin(t *testing.T) {
	seven := append(slices.Repeat([]string{rep("a", 64)}, 6), rep("b", 10))
	for _, c := range []struct {
		names []string
		want  string
	}{
		{[]string{"a"}, "a"},
		{[]string{"a", "b"}, "a/b"},
		{[]string{"b", "a", "b"}, "b/a/b"},
		{[]string{"é", "..."}, "é/..."},
		{slices.Repeat([]string{"a"}, 16), pathOf(16)},
		{seven, pathLong(400)},
		{nil, ""},
		{[]string{}, ""},
		{[]string{""}, ""},
		{[]string{"", ""}, ""},
		{[]string{"", "a"}, ""},
		{[]string{"a", ""}, ""},
		{[]string{"a", "", "b"}, ""},
		{[]string{"."}, ""},
		{[]string{"a", ".."}, ""},
		{[]string{"a/b"}, ""},
		{[]string{"a", "b/c"}, ""},
		{[]string{"a/b", "c"}, ""},
		{[]string{"/"}, ""},
		{[]string{"a\x00"}, ""},
		{[]string{"\xc3", "\xa9"}, ""},
		{[]string{"a", rep("b", 65)}, ""},
		{slices.Repeat([]string{"a"}, 17), ""},
		{slices.Repeat([]string{"a"}, 1<<20), ""},
		{append(slices.Clone(seven[:6]), rep("b", 11)), ""},
	} {
		got, ok := name.Join(c.names...)
		if got != c.want || ok != (c.want != "") {
			t.Errorf("Join(%.80q) is %.80q, %v", c.names, got, ok)
		}
	}
	if got, ok := name.Join(); got != "" || ok {
		t.Errorf("Join() is %q, %v", got, ok)
	}
}

// P1.1: Within.
func TestWithin(t *testing.T) {
	for _, c := range []struct {
		p, q string
		want bool
	}{
		{"a", "a", true},
		{"a/b", "a", true},
		{"a/b/c", "a", true},
		{"a/b/c", "a/b", true},
		{"a/b", "a/b", true},
		{"a", "", true},
		{"a/b", "", true},
		{pathOf(16), pathOf(15), true},
		{pathOf(16), "", true},
		{pathLong(400), pathLong(400), true},
		{"ab", "a", false},
		{"a.b", "a", false},
		{"a", "a/b", false},
		{"a", "ab", false},
		{"b/a", "a", false},
		{"a/b", "b", false},
		{"a/bc", "a/b", false},
		{"A/b", "a", false},
		{"", "", false},
		{"", "a", false},
		{"/", "", false},
		{"/a", "", false},
		{"a/", "", false},
		{"a/", "a", false},
		{"a/", "a/", false},
		{"a//b", "a", false},
		{"a/b", "a/", false},
		{"a/b", "/", false},
		{"a/..", "a", false},
		{"..", "..", false},
		{"a/\xff", "a", false},
		{"\xff", "", false},
		{"\xff", "\xff", false},
		{pathOf(17), pathOf(16), false},
		{pathOf(17), "", false},
		{pathLong(401), "", false},
		{pathLong(401), rep("a", 64), false},
		{rep("a", 65), rep("a", 65), false},
	} {
		if name.Within(c.p, c.q) != c.want {
			t.Errorf("Within(%.80q, %.80q) is not %v", c.p, c.q, c.want)
		}
	}
}

// P1.1: Within of all pairs of short texts.
func TestWithinOfAnyTexts(t *testing.T) {
	all := texts(4, "a", "b", "/", ".", "\xff")
	for _, p := range all {
		for _, q := range all {
			names, above := strings.Split(p, "/"), strings.Split(q, "/")
			want := isPath(p) && (q == "" || isPath(q) && len(above) <= len(names) && slices.Equal(names[:len(above)], above))
			if name.Within(p, q) != want {
				t.Fatalf("Within(%q, %q) is not %v", p, q, want)
			}
		}
	}
}

// P1.1: Order.
func TestOrder(t *testing.T) {
	for _, c := range []struct {
		a, b string
		want int
	}{
		{"a", "a", 0},
		{"", "", 0},
		{"a/b", "a/b", 0},
		{"/", "/", 0},
		{"\xff", "\xff", 0},
		{"a", "b", -1},
		{"a", "a/b", -1},
		{"a", "ab", -1},
		{"a/z", "a.b", -1},
		{"a/z", "a!", -1},
		{"a/z", "a\x00", -1},
		{"a/z", "ab", -1},
		{"a/z/z", "a/z.", -1},
		{"A", "a", -1},
		{"B", "a", -1},
		{"Z/z", "a", -1},
		{"a", "é", -1},
		{"z", "\xff", -1},
		{"\x7f", "\x80", -1},
		{"", "a", -1},
		{"", "/", -1},
		{"", "\x00", -1},
		{"/", "//", -1},
		{"/", "\x00", -1},
		{"/a", "a", -1},
		{"a//", "a/b", -1},
		{"a/", "a/\x00", -1},
		{"a/", "a\x00", -1},
		{"10", "9", -1},
		{rep("a", 1<<20), rep("a", 1<<20) + "/", -1},
		{rep("/", 1<<20) + "a", rep("/", 1<<20) + "b", -1},
	} {
		if got := name.Order(c.a, c.b); got != c.want {
			t.Errorf("Order(%.80q, %.80q) is %d", c.a, c.b, got)
		}
		if got := name.Order(c.b, c.a); got != -c.want {
			t.Errorf("Order(%.80q, %.80q) is %d", c.b, c.a, got)
		}
	}
}

// P1.1: Order of all pairs of short texts goes name by name.
func TestOrderIsByNames(t *testing.T) {
	all := texts(4, "a", "b", "/", ".", "\x00", "\xff")
	for _, a := range all {
		for _, b := range all {
			want := slices.Compare(strings.Split(a, "/"), strings.Split(b, "/"))
			if got := name.Order(a, b); got != want {
				t.Fatalf("Order(%q, %q) is %d, not %d", a, b, got, want)
			}
		}
	}
}

// P1.1: Fold of each byte, and of texts of several.
func TestFold(t *testing.T) {
	for c := range 256 {
		want := c
		if c >= 65 && c <= 90 {
			want = c + 32
		}
		if got := name.Fold(string([]byte{byte(c)})); got != string([]byte{byte(want)}) {
			t.Errorf("Fold of byte %d is %q", c, got)
		}
	}
	for s, want := range map[string]string{
		"":             "",
		"AbZ/z.C":      "abz/z.c",
		"ÉÀ":           "ÉÀ",
		"\u212Aİ":      "\u212Aİ", // runes that have a small ASCII letter, but aren't A to Z
		"A\xffB\xc3":   "a\xffb\xc3",
		"/A//B/":       "/a//b/",
		"A\x00Z":       "a\x00z",
		rep("Q", 9999): rep("q", 9999),
	} {
		if got := name.Fold(s); got != want {
			t.Errorf("Fold(%.80q) is %.80q", s, got)
		}
	}
}

// P1.1: Clash.
func TestClash(t *testing.T) {
	for _, c := range []struct {
		paths []string
		i, j  int
	}{
		{nil, -1, -1},
		{[]string{"a"}, -1, -1},
		{[]string{"a", "a"}, -1, -1},
		{[]string{"a", "b", "a/b", "ab"}, -1, -1},
		{[]string{"É", "é"}, -1, -1},
		{[]string{"K", "\u212A"}, -1, -1},
		{[]string{"A/b", "a/c", "A"}, -1, -1},
		{[]string{"a", "A"}, 0, 1},
		{[]string{"A", "a"}, 0, 1},
		{[]string{"x", "A", "a"}, 1, 2},
		{[]string{"a", "a", "A"}, 0, 2},
		{[]string{"a", "A", "a"}, 0, 1},
		{[]string{"A", "b", "B", "a"}, 1, 2},
		{[]string{"A", "b", "a", "B"}, 0, 2},
		{[]string{"b", "A", "x", "a", "B"}, 1, 3},
		{[]string{"a/x", "A/x"}, 0, 1},
		{[]string{"é/X", "y", "é/x"}, 0, 2},
		{[]string{"/A", "/a"}, 0, 1},
		{[]string{"", "\xffA", "", "\xffa"}, 1, 3},
	} {
		if i, j := name.Clash(c.paths...); i != c.i || j != c.j {
			t.Errorf("Clash(%q) is %d, %d", c.paths, i, j)
		}
	}
	if i, j := name.Clash(); i != -1 || j != -1 {
		t.Errorf("Clash() is %d, %d", i, j)
	}
}

// P1.1: Clash of all short lists: the least second place, and for it the least first one.
func TestClashOfAnyList(t *testing.T) {
	for _, s := range texts(6, "a", "A", "b", "B", "c") {
		paths := strings.Split(s, "")
		i, j := firstPair(paths)
		if gi, gj := name.Clash(paths...); gi != i || gj != j {
			t.Fatalf("Clash(%q) is %d, %d, not %d, %d", paths, gi, gj, i, j)
		}
	}
}

func firstPair(paths []string) (int, int) {
	for j := range paths {
		for i := range j {
			if paths[i] != paths[j] && strings.EqualFold(paths[i], paths[j]) {
				return i, j
			}
		}
	}
	return -1, -1
}

// P1.2: a path is put together again of its parts.
func TestPartsMakeThePath(t *testing.T) {
	paths := 0
	for _, p := range odd() {
		if !isPath(p) {
			continue
		}
		paths++
		if got, ok := name.Join(name.Split(p)...); got != p || !ok {
			t.Errorf("Join of Split of %.80q is %.80q, %v", p, got, ok)
		}
		whole := name.Base(p)
		if above := name.Parent(p); above != "" {
			whole = above + "/" + whole
		}
		if whole != p {
			t.Errorf("Parent and Base of %.80q make %.80q", p, whole)
		}
	}
	if paths < 100 {
		t.Errorf("only %d paths were tried", paths)
	}
}

// P1.3: of any texts Order is 0 just for the same, turns with its arguments, and goes through.
func TestOrderIsAnOrder(t *testing.T) {
	all := texts(4, "a", "B", "/", ".", "\x00", "\xff")
	slices.SortFunc(all, name.Order)
	for i, a := range all {
		for j, b := range all {
			want := 0
			if i < j {
				want = -1
			} else if i > j {
				want = 1
			}
			if got := name.Order(a, b); got != want {
				t.Fatalf("Order(%q, %q) is %d, but they are sorted as %d", a, b, got, want)
			}
		}
	}
}

// P1.3: of sorted paths those within one stand right behind it, with nothing else between.
func TestWithinStandsRightBehind(t *testing.T) {
	var paths []string
	for _, s := range append(texts(4, "a", "b", "/", ".", "\x01"), "a/b/a", "a/b/b", "a/a/a", "a/b.b", "a.b/a", "ab/a/b") {
		if isPath(s) {
			paths = append(paths, s)
		}
	}
	slices.SortFunc(paths, name.Order)
	for i, q := range paths {
		left := false // whether something that isn't within q came
		for _, p := range paths[i:] {
			in := name.Within(p, q)
			if in && left {
				t.Fatalf("%q stands behind something that isn't within %q", p, q)
			}
			left = left || !in
		}
		for _, p := range paths[:i] {
			if name.Within(p, q) {
				t.Fatalf("%q stands ahead of %q", p, q)
			}
		}
	}
}

// R4: what is handed in isn't changed, the room behind it neither; a list that is answered is new.
func TestMemory(t *testing.T) {
	room := []string{"A", "b", "a", "rest"}
	name.Join(room[:2]...)
	name.Clash(room[:3]...)
	if !slices.Equal(room, []string{"A", "b", "a", "rest"}) {
		t.Errorf("what was handed in is now %q", room)
	}
	one, other := name.Split("a/b"), name.Split("a/b")
	one[0], one[1] = "x", "y"
	one = append(one[:1], "z")
	if !slices.Equal(other, []string{"a", "b"}) || !slices.Equal(name.Split("a/b"), other) {
		t.Errorf("a list of before is now %q", other)
	}
}
