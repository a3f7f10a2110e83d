package glob_test

import (
	"math/rand"
	"slices"
	"strings"
	"testing"

	"hawser/api"
	"hawser/glob"
	"hawser/name"
)

// rep is s, n times.
func rep(s string, n int) string { return strings.Repeat(s, n) }

// texts are all texts of at most most of these elements.
func texts(most int, elements ...string) []string {
	all := []string{""}
	last := all
	for range most {
		var next []string
		for _, s := range last {
			for _, e := range elements {
				next = append(next, s+e)
			}
		}
		all = append(all, next...)
		last = next
	}
	return all
}

// mixed are n texts of 1 to most of these elements, the same ones each time.
func mixed(n, most int, elements ...string) []string {
	pick := rand.New(rand.NewSource(int64(most)))
	all := make([]string, n)
	for i := range all {
		for range 1 + pick.Intn(most) {
			all[i] += elements[pick.Intn(len(elements))]
		}
	}
	return all
}

// patternTexts are texts with all that may be right or wrong of patterns.
func patternTexts() []string {
	all := texts(4, "a", "b", "-", "!", "[", "]", "*", "?", `\`, "/", "é", "\xff")
	all = append(all, mixed(40000, 12, "a", "b", "c", "-", "!", "[", "[!", "]", "*", "**", "?", `\`, "/", "/**/", "é", "\uFFFD")...)
	return append(all, mixed(40000, 9, "a", "b", "d", "[a-c]", "[!a-b]", "[é-ü]", "[--b]", "[a-b-]", "*", "**", "?", `\*`, "/", "/**/", "/*/")...)
}

// P2.1: Check takes what is a pattern.
func TestCheckTakes(t *testing.T) {
	for _, s := range []string{
		"a", " ", "\x00", "\n", ".", "..", "a/..", "]", "]a[b]", "-", "!", "!a", "a-b", "é世😀", "\uFFFD", "[\uFFFD]",
		"*", "**", "***", "****", "a**b", "a/**", "**/a", "a/**/b", "**/**", "a/***/b", "?", "??*?",
		`\a`, `\*`, `\\`, `\[`, `\]`, `\é`, `\-`, `a\\/b`, `\**`,
		"[a]", "[abc]", "[a-c]", "[c-a]", "[!a]", "[!!]", "[!!a]", "[a!]", `[\!]`, "[-]", "[--]", "[---]", "[-a]", "[a-]", "[a--]", "[a-b-c]", "[!-]", "[!-a]",
		`[\]]`, `[!\]]`, `[\\]`, `[a\-c]`, `[a-\]]`, `[\a-\c]`, "[[]", "[a[b]", "[*]", "[?]", "[**]", "[.]", "a]", "[a]]", "[a]b[c]", "a/[b]/c",
		rep("a", 400), rep("é", 200), rep("a/", 199) + "ab", rep("**/", 133) + "a", rep("?", 400), "[" + rep("a", 398) + "]",
	} {
		if at, e := glob.Check(s); at != 0 || e != api.OK {
			t.Errorf("Check(%.80q) is %d, %d", s, at, e)
		}
	}
}

// P2.1: Check tells the place of the first fault.
func TestCheckRefuses(t *testing.T) {
	for _, x := range []struct {
		s    string
		want int
	}{
		// too short, too long: the length, whatever else there is
		{"", 0}, {rep("a", 401), 401}, {rep("é", 201), 402}, {"//" + rep("a", 399), 401}, {"\xff" + rep("a", 400), 401}, {rep("\xff", 1000), 1000},
		// a byte that is part of no rune, ahead of all faults of another kind
		{"\xff", 0}, {"a\xff", 1}, {"a\xc3", 1}, {"é\x80", 2}, {"[\xff]", 1}, {"//[\xff", 3}, {`\` + "\xff", 1}, {"\uFFFD\xff", 3}, {"a\xed\xa0\x80", 1}, {"\xc0\x80", 0}, {"a/b\xf4\x90\x80\x80", 3}, {"a\xe4\xb8", 1}, {"/\x80\xff", 1},
		// an empty part
		{"/", 0}, {"//", 0}, {"/a", 0}, {"a/", 1}, {"a//", 2}, {"a//b", 2}, {"a///b", 2}, {"a/b/", 3}, {"**/", 2}, {"**//a", 3}, {"é/", 2}, {"é//é", 3}, {rep("a", 399) + "/", 399},
		// a backslash with nothing behind it
		{`\`, 0}, {`a\`, 1}, {`\\\`, 2}, {`a\/b`, 1}, {`\/`, 0}, {`\\\/`, 2}, {`é\`, 2}, {`[a]\`, 3}, {`a/\`, 2},
		// brackets
		{"[", 0}, {"[a", 0}, {"a[b", 1}, {"[]", 0}, {"a[]", 1}, {"[]a]", 0}, {"[!", 0}, {"[!]", 0}, {"[!]a]", 0}, {"[!a", 0}, {`[\]`, 0}, {`[a\]`, 0}, {`[a-\]`, 0}, {`[\`, 0}, {`[a\`, 0}, {`[a-\`, 0},
		{"[-", 0}, {"[a-", 0}, {"[a-b", 0}, {"[/]", 0}, {`[\/]`, 0}, {"[a/b]", 0}, {"[a-/]", 0}, {`[a-\/]`, 0}, {"[!/]", 0}, {"a/[b/c]", 2}, {"[a][", 3}, {"[[a][", 4}, {"é[", 2}, {`\[[`, 2}, {"[a]/[b/]", 4},
		// the first of several
		{"[a//", 0}, {"a//[", 2}, {`a[\`, 1}, {`\/[`, 0}, {"a//\\", 2}, {"[]/", 0}, {"a[/", 1},
	} {
		if at, e := glob.Check(x.s); at != x.want || e != api.ErrGlob {
			t.Errorf("Check(%.80q) is %d, %d, not %d", x.s, at, e, x.want)
		}
	}
}

// P2.1: Match, by the chapter's words.
func TestMatch(t *testing.T) {
	for _, x := range []struct {
		pattern   string
		yes, noes []string
	}{
		// runes as themselves
		{"a", []string{"a", "b/a", "c/b/a"}, []string{"b", "A", "aa", "a/b", "ab", "ba"}},
		{"é]!-", []string{"é]!-", "x/é]!-"}, []string{"é", "e]!-"}},
		{"a/b", []string{"a/b"}, []string{"a", "b", "c/a/b", "a/b/c", "a/c", "ab"}},
		{".", nil, []string{"a", "...", ".a"}},
		{"\uFFFD", []string{"\uFFFD"}, []string{"a", "é"}},
		{"a\x00", nil, []string{"a"}},
		// any bytes of one name
		{"*", []string{"a", ".a", "é", "b/a", rep("x", 64)}, nil},
		{"*.go", []string{".go", "b.go", "a/b.go", "a.go/b.go"}, []string{"go", "b.go/a", "b.g", "b.goo"}},
		{"a*", []string{"a", "ab", "aé/abc"}, []string{"b", "ba", "a/b"}},
		{"a*b*c", []string{"abc", "axbxc", "abcbc", "aébc"}, []string{"ab", "ac", "abcb", "acb"}},
		{"*a*", []string{"a", "bab", "aa"}, []string{"b"}},
		{"a/*.go", []string{"a/b.go", "a/.go"}, []string{"b.go", "a/c/b.go", "a", "b/a/b.go"}},
		{"*/*", []string{"a/b"}, []string{"a", "a/b/c"}},
		// two that aren't the whole part
		{"a**b", []string{"ab", "axyb", "c/ab"}, []string{"a/b", "a/x/b", "a"}},
		{"***", []string{"a", "a/b"}, nil},
		{"a/***", []string{"a/b"}, []string{"a", "a/b/c"}},
		{"a/**b", []string{"a/b", "a/xb"}, []string{"a/x/b", "a/c"}},
		{"b**", []string{"b", "a/bc"}, []string{"b/a"}},
		// any number of names
		{"**", []string{"a", "a/b", "a/b/c"}, nil},
		{"**/x", []string{"x", "a/x", "a/b/x"}, []string{"a", "x/a", "ax", "a/xx"}},
		{"a/**", []string{"a", "a/b", "a/b/c"}, []string{"b", "b/a", "ab"}},
		{"a/**/b", []string{"a/b", "a/x/b", "a/x/y/b", "a/b/b"}, []string{"a", "b", "ab", "a/b/c", "x/a/b"}},
		{"**/**", []string{"a", "a/b", "a/b/c"}, nil},
		{"**/a/**", []string{"a", "a/b", "b/a", "b/a/b", "b/b/a/b/b"}, []string{"b", "b/b", "ab/b"}},
		{"**/*", []string{"a", "a/b"}, nil},
		{"*/**", []string{"a", "a/b"}, nil},
		{"**/*/**/*", []string{"a/b", "a/b/c"}, []string{"a"}},
		{`\**`, []string{"*", "**", "*a"}, []string{"a", "a*"}},
		{`\*\*/a`, []string{"**/a"}, []string{"a", "b/a", "*/a"}},
		{`*\*`, []string{"*", "a*"}, []string{"a", "*a"}},
		// one rune
		{"?", []string{"a", "é", "世", "😀", "?", "b/a", "\uFFFD"}, []string{"aa", "éa"}},
		{"??", []string{"aa", "éa", "x/aé"}, []string{"a", "é", "世", "aaa"}},
		{"?*", []string{"a", "ab", "é"}, nil},
		{"*??", []string{"ab", "éé", "abc"}, []string{"é", "世", "a"}},
		{"a?b", []string{"aéb", "a?b", "axb"}, []string{"ab", "a/b", "axxb"}},
		{"?/?", []string{"a/b"}, []string{"a", "ab/c", "a/b/c"}},
		// brackets
		{"[abc]", []string{"a", "b", "c", "x/c"}, []string{"d", "ab", "[abc]"}},
		{"[a-c]", []string{"a", "b", "c"}, []string{"d", "-", "`"}},
		{"[é-ü]", []string{"é", "ë", "ü"}, []string{"è", "ý", "e"}},
		{"[c-a]", nil, []string{"a", "b", "c", "-"}},
		{"[!c-a]", []string{"a", "b", "c", "-"}, []string{"aa"}},
		{"[a-a]", []string{"a"}, []string{"-", "b"}},
		{"[!a-c]", []string{"d", "-", "!", "é"}, []string{"a", "b", "c", "dd"}},
		{"[!a-c]?", []string{"dé", "éa"}, []string{"bé", "d", "é"}},
		{"[!!]", []string{"a"}, []string{"!"}},
		{"[!!a]", []string{"b"}, []string{"!", "a"}},
		{"[a!]", []string{"a", "!"}, []string{"b"}},
		{`[\!a]`, []string{"a", "!"}, []string{"b", `\`}},
		{"[!-z]", []string{"a", "!"}, []string{"-", "z"}},
		{`[\!-z]`, []string{"a", "!", "-", "z"}, []string{" ", "{"}},
		{"[-]", []string{"-"}, []string{"a"}},
		{"[--]", []string{"-"}, []string{"a"}},
		{"[-a]", []string{"-", "a"}, []string{"b", "A"}},
		{"[a-]", []string{"-", "a"}, []string{"b"}},
		{"[!a-]", []string{"b"}, []string{"-", "a"}},
		{"[a-b-c]", []string{"a", "b", "-", "c"}, []string{"d", "A"}},
		{"[a-b-]", []string{"a", "b", "-"}, []string{"c", "\\"}},
		{"[a-bc-d]", []string{"a", "b", "c", "d"}, []string{"-", "e"}},
		{"[a-b-c-e]", []string{"a", "b", "-", "c", "d", "e"}, []string{"f", "A"}},
		{"[--A]", []string{"-", "5", "A"}, []string{",", "B"}},
		{"[+--]", []string{"+", ",", "-"}, []string{".a", "a"}},
		{`[a\-c]`, []string{"a", "-", "c"}, []string{"b", `\`}},
		{`[\a-\c]`, []string{"a", "b", "c"}, []string{"d", `\`, "-"}},
		{`[\]]`, []string{"]"}, []string{`\`, "a"}},
		{`[X-\]]`, []string{"X", `\`, "]"}, []string{"^", "-"}},
		{`[\\]`, []string{`\`}, []string{"a"}},
		{`[\[]`, []string{"["}, []string{`\`}},
		{"[[]", []string{"["}, []string{"]"}},
		{"[a[b]", []string{"a", "[", "b"}, []string{"]"}},
		{"[*?]", []string{"*", "?"}, []string{"a", "**"}},
		{"[**]", []string{"*"}, []string{"a", "**"}},
		{"[a]]", []string{"a]"}, []string{"a", "]"}},
		{"[!a]", []string{"b"}, []string{"a"}},
		{"x[!a]", []string{"xb"}, []string{"x", "xa"}},
		{"[+-9]", []string{"0", "0/0"}, []string{":", "0/a"}},
		{"x[+-9]y", []string{"x0y"}, []string{"x/y"}},
		{"[a]/[!a]", []string{"a/b"}, []string{"a/a", "b"}},
		// runes as they are
		{`\a`, []string{"a"}, []string{`\a`, "b"}},
		{`\?`, []string{"?"}, []string{"a"}},
		{`\[a]`, []string{"[a]"}, []string{"a"}},
		{`\\`, []string{`\`}, []string{`\\`}},
		{`\é\*`, []string{"é*"}, []string{"éa"}},
	} {
		for _, p := range x.yes {
			if !glob.Match(x.pattern, p) {
				t.Errorf("%q doesn't match %q", x.pattern, p)
			}
		}
		for _, p := range x.noes {
			if glob.Match(x.pattern, p) {
				t.Errorf("%q matches %q", x.pattern, p)
			}
		}
	}
}

// P2.1: Match is false of what is no pattern, and of what is no path.
func TestMatchWrong(t *testing.T) {
	for _, s := range []string{"", "[", "a[", "a//b", "/a", "a/", `a\`, "a\xff", "[]", "[!]", rep("*", 401)} {
		for _, p := range []string{"a", "a/b", "[", `a\`} {
			if glob.Match(s, p) {
				t.Errorf("%.80q matches %q", s, p)
			}
		}
	}
	for _, p := range []string{"", "/", "a/", "/a", "a//b", ".", "..", "a/..", "a\x00", "\xff", "a\xff", rep("x", 65), rep("a/", 16) + "a", rep(rep("a", 64)+"/", 6) + rep("b", 11)} {
		for _, s := range []string{"*", "**", "**/*", "*/**", "?", "[!b]", "a", "a/*", ".", ".."} {
			if glob.Match(s, p) {
				t.Errorf("%q matches %.80q", s, p)
			}
		}
	}
}

// P2.1: the longest patterns and paths.
func TestMatchLimits(t *testing.T) {
	deep := rep("a/", 15) + "a"
	long := rep(rep("a", 64)+"/", 6) + rep("b", 10)
	for _, x := range []struct {
		pattern, path string
		want          bool
	}{
		{rep("*", 400), "a", true},
		{rep("*a", 64), rep("a", 64), true},
		{rep("*a", 65), rep("a", 64), false},
		{rep("*a", 199) + "*b", rep("a", 64), false},
		{rep("?*", 32), rep("é", 32), true},
		{rep("?*", 33), rep("é", 32), false},
		{rep("[!b]", 64), rep("a", 64), true},
		{"[" + rep("b", 397) + "a]", "a", true},
		{rep("**/", 133) + "a", deep, true},
		{rep("**/", 133) + "b", deep, false},
		{rep("**/a/", 16) + "**", deep, true},
		{rep("**/a/", 17) + "**", deep, false},
		{rep("**/*a*/", 16) + "b", deep, false},
		{rep("*/", 15) + "*", deep, true},
		{rep("*/", 16) + "*", deep, false},
		{rep("*/", 199) + "*", deep, false},
		{long, long, true},
		{long[:399] + "?", long, true},
		{long[:399] + "a", long, false},
		{"**/" + rep("*b", 6) + "*", long, true},
	} {
		if glob.Match(x.pattern, x.path) != x.want {
			t.Errorf("Match(%q, %q) is not %v", x.pattern, x.path, x.want)
		}
	}
}

// P2.1, P0: Check and Match answer as a slower reading does, for texts of all kinds.
func TestAgainstSlow(t *testing.T) {
	paths := append(texts(3, "a", "b", "é", "-", "!", "*", "/"), "c", "d", "]", "[", `\`, "?", "a]", "\uFFFD", "ab/ab", "a/b/a/b", "abc/d", "d/abc", "ë", "ü", "5")
	paths = slices.DeleteFunc(paths, func(p string) bool { return !name.Path(p) })
	matched, patterns := 0, 0
	for i, s := range patternTexts() {
		want := slowCheck(s)
		at, e := glob.Check(s)
		if want < 0 && (at != 0 || e != api.OK) || want >= 0 && (at != want || e != api.ErrGlob) {
			t.Fatalf("Check(%q) is %d, %d, not %d", s, at, e, want)
		}
		if want >= 0 {
			if glob.Match(s, paths[i%len(paths)]) {
				t.Fatalf("%q, no pattern, matches %q", s, paths[i%len(paths)])
			}
			continue
		}
		patterns++
		slow := slowPattern(s)
		for k := range 25 {
			p := paths[(i*7+k*11)%len(paths)]
			got := glob.Match(s, p)
			if got != slow(p) {
				t.Fatalf("Match(%q, %q) is %v", s, p, got)
			}
			if got {
				matched++
			}
		}
	}
	if patterns < 20000 || matched < 20000 {
		t.Errorf("only %d patterns and %d matches were seen", patterns, matched)
	}
}

// P2.1: Ignored.
func TestIgnored(t *testing.T) {
	for _, x := range []struct {
		rules     string // patterns, with a '+' ahead: ignore; with a '-': don't
		yes, noes string
	}{
		{"", "", "a a/b"},
		{"+a", "a a/b a/b/c b/a b/a/c", "b b/c ab"},
		{"-a", "", "a b"},
		{"+* -a", "b b/a a/b a/b/c", "a a/a"},
		{"-a +*", "a a/b b", ""},
		{"+* -a -a/b", "b a/c b/b", "a a/b"},
		{"+a -a", "", "a a/b"},
		{"+a -a +a", "a a/b", "b"},
		{"+a -a/b", "a a/b a/c", "b"},    // below an ignored one no rule keeps
		{"+a -**", "", "a a/b"},          // but the last word on a is to keep it
		{"+a/** -a", "a/b a/b/c", "a b"}, // a itself is kept
		{"+a/** -a/b", "a a/b", "b"},     // ** is no name too: a is ignored
		{"+*.o -k.o +d", "x.o d/k.o d", "k.o x e/k.o"},
		{"+** -d -d/*.c", "a d/x d/x/y.c", "d d/x.c"},
		{"+[ +a", "a", "b ["},
		{"+a -[", "a", "b"},
		{"+a -[!", "a a/[!", "["},
		{"+a - + -", "a", "b"},
		{"+d/*/x", "d/a/x d/a/x/y", "d d/a d/x d/a/b/x"},
	} {
		var rules []api.Rule
		for _, s := range strings.Fields(x.rules) {
			rules = append(rules, api.Rule{Ignore: s[0] == '+', Pattern: s[1:]})
		}
		for _, p := range strings.Fields(x.yes) {
			if !glob.Ignored(rules, p) {
				t.Errorf("by %q %q isn't ignored", x.rules, p)
			}
		}
		for _, p := range strings.Fields(x.noes) {
			if glob.Ignored(rules, p) {
				t.Errorf("by %q %q is ignored", x.rules, p)
			}
		}
	}
}

// P2.1: Ignored, of what is no path, of no rules, of more rules than Rules takes.
func TestIgnoredWrong(t *testing.T) {
	all := []api.Rule{{Ignore: true, Pattern: "**"}}
	for _, p := range []string{"", "/", "a/", "/a", "a//b", ".", "a/..", "\xff", "a/\x00", rep("x", 65), rep("a/", 16) + "a"} {
		if glob.Ignored(all, p) {
			t.Errorf("%.80q is ignored", p)
		}
	}
	if glob.Ignored(nil, "a") || glob.Ignored([]api.Rule{}, "a") {
		t.Error("no rules ignore a")
	}
	many := slices.Repeat([]api.Rule{{Pattern: "a"}}, 150)
	many[149] = api.Rule{Ignore: true, Pattern: "b"}
	if !glob.Ignored(many, "b") || glob.Ignored(many, "a") {
		t.Error("of 151 rules the last says nothing")
	}
}

// P2.1: Rules.
func TestRules(t *testing.T) {
	good := api.Rule{Ignore: true, Pattern: "a"}
	bad := api.Rule{Pattern: "["}
	none := api.Rule{}
	for _, x := range []struct {
		rules []api.Rule
		at    int
		e     api.Errno
	}{
		{nil, 0, api.OK},
		{[]api.Rule{}, 0, api.OK},
		{[]api.Rule{good}, 0, api.OK},
		{slices.Repeat([]api.Rule{good}, 100), 0, api.OK},
		{slices.Repeat([]api.Rule{good}, 101), 0, api.ErrArg},
		{slices.Repeat([]api.Rule{bad}, 101), 0, api.ErrArg},
		{slices.Repeat([]api.Rule{bad}, 100), 0, api.ErrGlob},
		{append(slices.Repeat([]api.Rule{good}, 99), bad), 99, api.ErrGlob},
		{append(slices.Repeat([]api.Rule{good}, 100), bad), 0, api.ErrArg},
		{[]api.Rule{bad}, 0, api.ErrGlob},
		{[]api.Rule{none}, 0, api.ErrGlob},
		{[]api.Rule{good, none, bad}, 1, api.ErrGlob},
		{[]api.Rule{good, good, bad, bad}, 2, api.ErrGlob},
		{[]api.Rule{good, {Ignore: true, Pattern: "a//b"}}, 1, api.ErrGlob},
		{[]api.Rule{{Pattern: "a/**/[!b-c]?"}, {Pattern: `\*`}}, 0, api.OK},
	} {
		if at, e := glob.Rules(x.rules); at != x.at || e != x.e {
			t.Errorf("Rules of %d is %d, %d, not %d, %d", len(x.rules), at, e, x.at, x.e)
		}
	}
}

// P2.1: Literal.
func TestLiteral(t *testing.T) {
	for p, want := range map[string]string{
		"a":                 "a",
		"a/b":               "a/b",
		"*":                 `\*`,
		"**/a":              `\*\*/a`,
		"a*/[b":             `a\*/\[b`,
		`?[*\`:              `\?\[\*\\`,
		"]-!é.x":            "]-!é.x",
		"\uFFFD?":           "\uFFFD" + `\?`,
		"[!a-b]/[c]":        `\[!a-b]/\[c]`,
		rep("a", 64):        rep("a", 64),
		rep("*", 64):        rep(`\*`, 64),
		"":                  "",
		".":                 "",
		"a/":                "",
		"/a":                "",
		"a//b":              "",
		"*/..":              "",
		"*\xff":             "",
		"*\x00":             "",
		rep("*", 65):        "",
		rep("*/", 16) + "*": "",
	} {
		if got := glob.Literal(p); got != want {
			t.Errorf("Literal(%q) is %q", p, got)
		}
	}
	long := rep(rep("*", 64)+"/", 6) + rep("b", 10)
	if got := glob.Literal(long); got != strings.ReplaceAll(long, "*", `\*`) {
		t.Errorf("Literal of a long path is %q", got)
	}
}

// P2.2: Literal of a path matches that path alone; of one name, all that end with it.
func TestLiteralMatches(t *testing.T) {
	paths := texts(4, "a", "*", "?", "[", "]", `\`, "/", "é", "-", "!", "[a]", "**")
	paths = slices.DeleteFunc(paths, func(p string) bool { return !name.Path(p) })
	pick := rand.New(rand.NewSource(2))
	for i, p := range paths {
		s := glob.Literal(p)
		if at, e := glob.Check(s); at != 0 || e != api.OK {
			t.Fatalf("Literal(%q) is no pattern", p)
		}
		others := []string{p, "a/" + p, p + "/a", p + "a", name.Base(p), name.Parent(p), paths[(i+1)%len(paths)], paths[max(0, i-1)]}
		for range 10 {
			others = append(others, paths[pick.Intn(len(paths))])
		}
		for _, q := range others {
			want := q == p || !strings.Contains(p, "/") && name.Base(q) == p
			if glob.Match(s, q) != want {
				t.Fatalf("Literal(%q) on %q: not %v", p, q, want)
			}
		}
	}
}

// P2.2: a path that is long, but not too long for a pattern with its backslashes.
func TestLiteralLong(t *testing.T) {
	p := rep("*", 60) + "/" + rep("?", 60) + "/" + rep(`\`, 60) + "/" + rep("b", 37)
	s := glob.Literal(p)
	if len(s) != 400 || !glob.Match(s, p) || glob.Match(s, p[:len(p)-1]) || glob.Match(s, rep("a", 60)+p[60:]) {
		t.Errorf("Literal of a long path is %q", s)
	}
	p += "b"
	if at, e := glob.Check(glob.Literal(p)); at != 401 || e != api.ErrGlob || glob.Match(glob.Literal(p), p) {
		t.Error("Literal of a longer path is a pattern")
	}
}

// rulesOf are n rules, the same ones each time.
func rulesOf(n int, pick *rand.Rand) []api.Rule {
	patterns := []string{"a", "b", "c", "*", "**", "a/b", "a/**", "**/c", "*/b", "[a-b]", "[", "?/?", "b/*/c", ""}
	rules := make([]api.Rule, n)
	for i := range rules {
		rules[i] = api.Rule{Ignore: pick.Intn(2) == 0, Pattern: patterns[pick.Intn(len(patterns))]}
	}
	return rules
}

// P2.1, P2.3: what is ignored is what the last words on a path and on all above it say.
func TestLastWord(t *testing.T) {
	paths := texts(4, "a/", "b/", "c/")[1:]
	pick := rand.New(rand.NewSource(3))
	for range 3000 {
		rules := rulesOf(pick.Intn(6), pick)
		for range 10 {
			p := strings.TrimSuffix(paths[pick.Intn(len(paths))], "/")
			want := false
			for q := p; q != ""; q = name.Parent(q) {
				word := false
				for _, r := range rules {
					if glob.Match(r.Pattern, q) {
						word = r.Ignore
					}
				}
				want = want || word
			}
			got := glob.Ignored(rules, p)
			if got != want {
				t.Fatalf("by %v %q is ignored: %v", rules, p, got)
			}
			if got && !glob.Ignored(rules, p+"/x") {
				t.Fatalf("by %v %q is ignored, but not what is below it", rules, p)
			}
		}
	}
}

// P2.3: a rule put behind the others has the last word, where what is above isn't ignored.
func TestRuleBehind(t *testing.T) {
	paths := texts(4, "a/", "b/", "c/")[1:]
	pick := rand.New(rand.NewSource(4))
	last, above := 0, 0
	for range 3000 {
		rules := rulesOf(pick.Intn(6), pick)
		p := strings.TrimSuffix(paths[pick.Intn(len(paths))], "/")
		for _, ignore := range []bool{false, true} {
			// Told literally, so that nothing above it is matched too.
			behind := append(slices.Clone(rules), api.Rule{Ignore: ignore, Pattern: glob.Literal(p)})
			got := glob.Ignored(behind, p)
			if name.Parent(p) != "" && glob.Ignored(behind, name.Parent(p)) {
				above++
				if !got {
					t.Fatalf("by %v %q isn't ignored", behind, p)
				}
			} else {
				last++
				if got != ignore {
					t.Fatalf("by %v %q is ignored: %v", behind, p, got)
				}
			}
		}
	}
	if last < 500 || above < 500 {
		t.Errorf("only %d and %d were seen", last, above)
	}
}

// R4: rules are not changed, nor the room behind them.
func TestRulesStay(t *testing.T) {
	room := []api.Rule{{Ignore: true, Pattern: "*"}, {Pattern: "a"}, {Pattern: "["}, {Ignore: true, Pattern: "behind"}, {Pattern: "it"}}
	before := slices.Clone(room)
	for range 3 {
		glob.Ignored(room[:3], "a/b/c")
		glob.Rules(room[:3])
		glob.Rules(room[:2])
	}
	if !slices.Equal(room, before) {
		t.Errorf("%v became %v", before, room)
	}
}

// R7: what one call is asked says nothing to the next.
func TestOneAnswer(t *testing.T) {
	rules := []api.Rule{{Ignore: true, Pattern: "**/x"}}
	for range 3 {
		if !glob.Match("a/**/b", "a/x/b") || glob.Match("a/**/b", "a/x/c") || !glob.Ignored(rules, "a/x/b") || glob.Ignored(rules, "a/b/c") {
			t.Fatal("another answer")
		}
	}
}
