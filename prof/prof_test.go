package prof_test

import (
	"fmt"
	"math"
	"math/rand"
	"slices"
	"strconv"
	"strings"
	"testing"

	"hawser/api"
	"hawser/prof"
)

// rep is s, n times.
func rep(s string, n int) string { return strings.Repeat(s, n) }

// named are texts, by a name and a text in turn.
func named(all ...string) []api.Text {
	var texts []api.Text
	for i := 0; i < len(all); i += 2 {
		texts = append(texts, api.Text{Name: all[i], Text: all[i+1]})
	}
	return texts
}

func same(p, q api.Profile) bool {
	return slices.Equal(p.Ignore, q.Ignore) && slices.Equal(p.Backup, q.Backup) && slices.Equal(p.Merge, q.Merge) &&
		p.Prefer == q.Prefer && p.Force == q.Force && p.Batch == q.Batch && p.Fast == q.Fast
}

// told is the beginning of what a profile has, for messages.
func told(p api.Profile) string { return fmt.Sprintf("%.300s", fmt.Sprintf("%+v", p)) }

func rule(ignore bool, pattern string) api.Rule { return api.Rule{Ignore: ignore, Pattern: pattern} }

func ignoring(rules ...api.Rule) api.Profile { return api.Profile{Ignore: rules} }

func backing(rules ...api.Rule) api.Profile { return api.Profile{Backup: rules} }

func merging(name, pattern string) api.Profile {
	return api.Profile{Merge: []api.Program{{Name: name, Pattern: pattern}}}
}

// says asks that a text of that name say the profile.
func says(t *testing.T, texts []api.Text, name string, want api.Profile) {
	t.Helper()
	if p, where, e := prof.Parse(texts, name); !same(p, want) || where != (api.Text{}) || e != api.OK {
		t.Errorf("%.300q says %s, %v, %d", texts, told(p), where, e)
	}
}

// fails asks that a text of that name have this fault, and say nothing.
func fails(t *testing.T, texts []api.Text, name, at string, line int, want api.Errno) {
	t.Helper()
	p, where, e := prof.Parse(texts, name)
	if !same(p, api.Profile{}) || where != (api.Text{Name: at, Text: strconv.Itoa(line)}) || e != want {
		t.Errorf("%.300q says %s, %v, %d", texts, told(p), where, e)
	}
}

// P8.1: the chapter's examples.
func TestExamples(t *testing.T) {
	x := "ignore *.o\n include y\nbatch"
	says(t, named("x", x, "y", "# y\nprefer a"), "x", api.Profile{Ignore: []api.Rule{rule(true, "*.o")}, Prefer: api.A, Batch: true})
	fails(t, named("x", x, "y", "include x"), "x", "y", 1, api.ErrCycle)
	fails(t, named("x", "prefer c"), "x", "x", 1, api.ErrProfile)
	says(t, named("x", "merge lines *.txt"), "x", merging("lines", "*.txt"))
}

// P8.1: each word, with blanks wherever they may be.
func TestLines(t *testing.T) {
	for line, want := range map[string]api.Profile{
		"": {}, " \t\r ": {}, "#": {}, "# batch": {}, "#batch": {}, "\t # x": {}, "#\x00\xff": {},
		"batch": {Batch: true}, "fast": {Fast: true}, " \tbatch\r": {Batch: true}, "\rfast \r\t": {Fast: true},
		"prefer a": {Prefer: api.A}, "prefer\tb": {Prefer: api.B}, "force \t\ra\r": {Force: api.A}, " force b ": {Force: api.B}, "prefer\ra": {Prefer: api.A},
		"ignore *.o": ignoring(rule(true, "*.o")), "keep *.o": ignoring(rule(false, "*.o")),
		"backup a/**/b": backing(rule(true, "a/**/b")), "drop [!a-c]": backing(rule(false, "[!a-c]")),
		"ignore a b": ignoring(rule(true, "a b")), "\tkeep \r a \t b\rc \t": ignoring(rule(false, "a \t b\rc")),
		"ignore #": ignoring(rule(true, "#")), "ignore ignore": ignoring(rule(true, "ignore")), "ignore \v\f": ignoring(rule(true, "\v\f")),
		"keep \u00a0": ignoring(rule(false, "\u00a0")), "backup é\u2003": backing(rule(true, "é\u2003")), "drop \x00": backing(rule(false, "\x00")),
		`ignore a\#`: ignoring(rule(true, `a\#`)), "ignore " + rep("a", 400): ignoring(rule(true, rep("a", 400))),
		"merge union a b": merging("union", "a b"), " merge\t\tlines\r\r*.txt\t": merging("lines", "*.txt"), "merge a a": merging("a", "a"), "merge z merge": merging("z", "merge"),
		"merge abcdefghijklmnop a/*": merging("abcdefghijklmnop", "a/*"), "merge qrstuvwxyz \xc3\xa9": merging("qrstuvwxyz", "é"),
	} {
		says(t, named("x", line), "x", want)
	}
}

// P8.1: lines that aren't as said.
func TestWrongLines(t *testing.T) {
	wrong := []string{
		"x", "Batch", "BATCH", "batches", "bat ch", "batch batch", "batch #", "batch 1", "fast a", "fastest", "\vbatch", "batch\v", "\u00a0fast", "fast\u00a0", "\x00", "batch\x00", "\xef\xbb\xbfbatch", "/", "-",
		"prefer", "prefer c", "prefer A", "prefer ab", "prefer a b", "prefer a #", "prefer 1", "prefera", "prefer,a", "force", "force C", "force B", "force b a", "force 2", "force\vb", "prefer \u00a0a",
		"ignore", "ignore ", "keep", "backup\t", "drop", "ignore [", "keep a//b", "backup /a", "drop a/", `ignore a\`, `ignore \ `, `keep \/`, "backup []", "drop \xff", "ignore a\x80", "ignore " + rep("a", 401), "ignores a", "ignore\va", "ignore:a",
		"merge", "merge lines", "merge lines \t", "merge Lines a", "merge line1 a", "merge li-nes a", "merge é a", "merge lines\va", "merge * a", "merge abcdefghijklmnopq a", "merge lines [", "merge lines a//b", "merge lines " + rep("a", 401), "merge `a a", "merge {a a", "merges lines a",
		"includes x", "Include y", "include\vx",
	}
	for _, line := range wrong {
		fails(t, named("x", line), "x", "x", 1, api.ErrProfile)
		fails(t, named("x", "include y\n\nfast", "y", "batch\n\n# z\n\t"+line+"\r\nbatch x"), "x", "y", 4, api.ErrProfile)
	}
}

// P8.1: lines end at bytes 10 alone, and are counted whether they say something or not.
func TestPlaces(t *testing.T) {
	says(t, named("x", "\n\n"), "x", api.Profile{})
	says(t, named("x", "batch\r\nfast\r\n\r\n"), "x", api.Profile{Batch: true, Fast: true})
	fails(t, named("x", "batch\rfast"), "x", "x", 1, api.ErrProfile)
	fails(t, named("x", "batch\u2028fast"), "x", "x", 1, api.ErrProfile)
	fails(t, named("x", "batch\n\nfast\n#\n?\n!"), "x", "x", 5, api.ErrProfile)
	fails(t, named("x", rep("\n", 65535)+"x"), "x", "x", 65536, api.ErrProfile)
	fails(t, named("x", "batch\n?", "?", "batch"), "x", "x", 2, api.ErrProfile)
	// The first fault is told: what is included is read ahead of what stands behind it.
	fails(t, named("x", "include y\n?", "y", "batch\n?"), "x", "y", 2, api.ErrProfile)
	fails(t, named("x", "?\ninclude y", "y", "batch\n?"), "x", "x", 1, api.ErrProfile)
	fails(t, named("x", "include y\n?", "y", "batch"), "x", "x", 2, api.ErrProfile)
	fails(t, named("x", "include y\ninclude z", "y", "", "z", "?"), "x", "z", 1, api.ErrProfile)
	fails(t, named("x", "include y\n\ninclude y\ninclude z", "y", "fast"), "x", "x", 4, api.ErrInclude)
}

// P8.1: a later line counts, within and behind what is included, and lists keep the order.
func TestTogether(t *testing.T) {
	says(t, named("x", "prefer a\nprefer b\nforce b\nforce a\nbatch\nbatch"), "x", api.Profile{Prefer: api.B, Force: api.A, Batch: true})
	says(t, named("x", "prefer a\nforce b\ninclude y", "y", "prefer b"), "x", api.Profile{Prefer: api.B, Force: api.B})
	says(t, named("x", "include y\nprefer a", "y", "prefer b\nforce a\nfast"), "x", api.Profile{Prefer: api.A, Force: api.A, Fast: true})
	says(t, named("x", "include y\nprefer a\ninclude y", "y", "prefer b"), "x", api.Profile{Prefer: api.B})
	says(t, named("x", "include y\nprefer a\ninclude z\ninclude y", "y", "include z\n", "z", "force b"), "x", api.Profile{Prefer: api.A, Force: api.B})
	says(t, named("x", "ignore a\nbackup b\ninclude y\nkeep d\nmerge p e\ninclude y", "y", "drop c\nignore c\nmerge q c"), "x", api.Profile{
		Ignore: []api.Rule{rule(true, "a"), rule(true, "c"), rule(false, "d"), rule(true, "c")},
		Backup: []api.Rule{rule(true, "b"), rule(false, "c"), rule(false, "c")},
		Merge:  []api.Program{{Name: "q", Pattern: "c"}, {Name: "p", Pattern: "e"}, {Name: "q", Pattern: "c"}},
	})
}

// P8.1: which text it is.
func TestNames(t *testing.T) {
	fails(t, nil, "x", "x", 0, api.ErrInclude)
	fails(t, nil, "", "", 0, api.ErrInclude)
	fails(t, named("x", "batch"), "X", "X", 0, api.ErrInclude)
	fails(t, named("x", "batch"), "x ", "x ", 0, api.ErrInclude)
	fails(t, named("x", "batch"), "\xff\n", "\xff\n", 0, api.ErrInclude)
	says(t, named("", "batch"), "", api.Profile{Batch: true})
	says(t, named(" x\n", "batch"), " x\n", api.Profile{Batch: true})
	// The first of several counts, be the others right or not.
	says(t, named("y", "?", "x", "batch", "x", "fast", "x", "?"), "x", api.Profile{Batch: true})
	says(t, named("x", "include y", "y", "fast", "x", "batch", "y", rep("a", 65537)), "x", api.Profile{Fast: true})
	fails(t, named("x", "?", "x", "batch"), "x", "x", 1, api.ErrProfile)
	// Names of texts are any texts, as far as a line can tell them.
	for _, name := range []string{"y", "Y", "a b", "a \t b", "#", "\xff", "é", "include y", "\u00a0", "\v", "/../", "*", "0", rep("n", 60000)} {
		says(t, named("x", "include \t"+name+"\r", name, "fast"), "x", api.Profile{Fast: true})
		fails(t, named("x", "\ninclude "+name), "x", "x", 2, api.ErrInclude)
	}
	// An include without an argument is one of the empty name.
	says(t, named("x", "include", "", "fast"), "x", api.Profile{Fast: true})
	fails(t, named("x", "include \t"), "x", "x", 1, api.ErrInclude)
	// What no line can tell isn't included.
	fails(t, named("x", "include y ", "y ", "fast"), "x", "x", 1, api.ErrInclude)
}

// chain are texts n1, n2 and so on, each of which includes the next one; the last one says what is given.
func chain(n int, last string) []api.Text {
	var texts []api.Text
	for i := range n {
		texts = append(texts, api.Text{Name: "n" + strconv.Itoa(i+1), Text: "\ninclude n" + strconv.Itoa(i+2)})
	}
	texts[n-1].Text = last
	return texts
}

// P8.1: texts within one another, and the errors of an include in their order.
func TestNest(t *testing.T) {
	for n := 1; n <= 8; n++ {
		says(t, chain(n, "batch"), "n1", api.Profile{Batch: true})
	}
	for n := 9; n <= 12; n++ {
		fails(t, chain(n, "batch"), "n1", "n8", 2, api.ErrProfile)
		says(t, chain(n, "batch"), "n"+strconv.Itoa(n-7), api.Profile{Batch: true})
	}
	fails(t, chain(8, "batch\n?"), "n1", "n8", 2, api.ErrProfile)
	// There is no such text; it is being read already; it would be too deep; it is too long.
	fails(t, chain(8, "include n9"), "n1", "n8", 1, api.ErrInclude)
	fails(t, chain(8, "include n8"), "n1", "n8", 1, api.ErrCycle)
	fails(t, chain(8, "include n1"), "n1", "n8", 1, api.ErrCycle)
	fails(t, chain(9, rep(" ", 65537)), "n1", "n8", 2, api.ErrProfile)
	fails(t, chain(8, rep(" ", 65537)), "n1", "n8", 0, api.ErrText)
	fails(t, chain(7, "include n1"), "n1", "n7", 1, api.ErrCycle)
	// They are within one another only while they are being read.
	says(t, append(chain(8, "batch"), named("x", "include n2\ninclude n2\ninclude n3\ninclude n8")...), "x", api.Profile{Batch: true})
	fails(t, append(chain(8, "batch"), named("x", "include n2\ninclude y\ninclude n1", "y", "include n3")...), "x", "n7", 2, api.ErrProfile)
	fails(t, append(chain(8, "batch"), named("x", "include n2\ninclude y", "y", "batch\ninclude n2")...), "x", "n7", 2, api.ErrProfile)
}

// P8.1: texts that come upon themselves.
func TestCycle(t *testing.T) {
	fails(t, named("x", "include x"), "x", "x", 1, api.ErrCycle)
	fails(t, named("x", "\ninclude y", "y", "#\n#\ninclude y"), "x", "y", 3, api.ErrCycle)
	fails(t, named("x", "include y\n?", "y", "include z", "z", "batch\ninclude x\n?"), "x", "z", 2, api.ErrCycle)
	fails(t, named("x", "include y", "y", "include z", "z", "include y"), "x", "z", 1, api.ErrCycle)
	fails(t, named("x", "", "x", "include x", "y", "include x\ninclude y"), "y", "y", 2, api.ErrCycle)
	says(t, named("x", "include y\ninclude y\ninclude z", "y", "include z", "z", "fast"), "x", api.Profile{Fast: true})
}

// P8.1: how long a text may be.
func TestLong(t *testing.T) {
	says(t, named("x", "batch"+rep(" ", 65531)), "x", api.Profile{Batch: true})
	fails(t, named("x", "batch"+rep(" ", 65532)), "x", "x", 0, api.ErrText)
	fails(t, named("x", "?\n"+rep("x", 1<<20)), "x", "x", 0, api.ErrText)
	fails(t, named("x", rep("\n", 65536)), "y", "y", 0, api.ErrInclude)
	says(t, named("x", rep("\n", 65536)), "x", api.Profile{})
	says(t, named("x", "fast", "y", rep("\n", 65537)), "x", api.Profile{Fast: true})
	says(t, named("x", "include y\ninclude y\ninclude z", "y", "#"+rep("y", 65535), "z", "#"+rep("z", 65535)), "x", api.Profile{})
	fails(t, named("x", "batch\n include y\n?", "y", rep("?", 65537)), "x", "y", 0, api.ErrText)
}

// P8.1: how many rules a list may have; each list for itself.
func TestRules(t *testing.T) {
	full := rep("ignore a\nkeep b\n", 50) + rep("drop a\nbackup b\n", 50) + rep("merge x a\n", 100)
	var want api.Profile
	for i := range 100 {
		want.Ignore = append(want.Ignore, []api.Rule{rule(true, "a"), rule(false, "b")}[i%2])
		want.Backup = append(want.Backup, []api.Rule{rule(false, "a"), rule(true, "b")}[i%2])
		want.Merge = append(want.Merge, api.Program{Name: "x", Pattern: "a"})
	}
	says(t, named("x", full), "x", want)
	for _, more := range []string{"ignore a", "keep a", "drop a", "backup a", "merge y b"} {
		fails(t, named("x", full+"\nfast\n"+more+"\n?"), "x", "x", 303, api.ErrProfile)
		fails(t, named("x", "include y\ninclude z", "y", full, "z", "\n"+more), "x", "z", 2, api.ErrProfile)
		fails(t, named("x", "include y\n"+more, "y", full), "x", "x", 2, api.ErrProfile)
		fails(t, named("x", more+"\ninclude y", "y", rep(more+"\n", 100)), "x", "y", 100, api.ErrProfile)
		// What is included again says all it says again.
		says(t, named("x", rep("include y\n", 4), "y", rep("ignore a\n", 25)), "x", api.Profile{Ignore: slices.Repeat([]api.Rule{rule(true, "a")}, 100)})
		fails(t, named("x", rep("include y\n", 4), "y", rep(more+"\nbatch\n", 26)), "x", "y", 45, api.ErrProfile)
		fails(t, named("x", rep("include y\n", 5), "y", rep(more+"\nbatch\n", 20)+"\ninclude z", "z", more), "x", "y", 33, api.ErrProfile)
		fails(t, named("x", rep("include y\n", 26), "y", "fast\ninclude z\n", "z", rep("\n", 6)+rep(more+"\n", 4)), "x", "z", 7, api.ErrProfile)
		fails(t, named("x", rep("include y\n", 2), "y", rep("include z\n", 60), "z", "#\n"+more), "x", "z", 2, api.ErrProfile)
	}
}

// P0: texts that include one another so often that no one could wait for each to be read as often.
func TestManyIncludes(t *testing.T) {
	texts := chain(8, "batch\nforce b")
	for i := range texts[:7] {
		texts[i].Text = rep(texts[i].Text, 4000)
	}
	says(t, texts, "n1", api.Profile{Batch: true, Force: api.B})
	texts[0].Text += "\ninclude x\nfast"
	fails(t, append(texts, named("x", "\n\ninclude n2")...), "n1", "n7", 2, api.ErrProfile)
	fails(t, append(texts, named("x", "\n\ninclude n3\n?")...), "n1", "x", 4, api.ErrProfile)
	says(t, append(texts, named("x", "\n\ninclude n3")...), "n1", api.Profile{Batch: true, Force: api.B, Fast: true})
	texts[7].Text = "ignore a"
	fails(t, texts, "n1", "n8", 1, api.ErrProfile)
}

// P8.1: any texts, against a slower reading.
func TestAsSlow(t *testing.T) {
	dice := rand.New(rand.NewSource(8))
	seen := map[string]int{}
	for range 4000 {
		texts := anyTexts(dice)
		for _, name := range []string{"x", "y", "#", "p", "gone"} {
			p, where, e := prof.Parse(texts, name)
			p2, where2, e2, _ := slowParse(texts, name)
			if !same(p, p2) || where != where2 || e != e2 {
				t.Fatalf("%q of %q says %v, %v, %d, not %v, %v, %d", name, texts, p, where, e, p2, where2, e2)
			}
			seen[fmt.Sprint(int(e), where.Text == "0")]++
		}
	}
	for _, what := range []string{"0 false", "1 true", "80 false", "81 false", "82 false", "82 true"} {
		if seen[what] < 50 {
			t.Errorf("%q was seen %d times", what, seen[what])
		}
	}
}

// P8.3: what is included may as well stand there.
func TestIncluded(t *testing.T) {
	dice := rand.New(rand.NewSource(9))
	seen := 0
	for range 2000 {
		texts := anyTexts(dice)
		p, _, e := prof.Parse(texts, "x")
		_, _, _, lines := slowParse(texts, "x")
		all := strings.Join(lines, "\n")
		if e != api.OK || len(all) > 65536 {
			continue
		}
		seen++
		says(t, named("x", all), "x", p)
	}
	if seen < 500 {
		t.Errorf("only %d were seen", seen)
	}
}

// P8.1: Print, line by line.
func TestPrint(t *testing.T) {
	rules := []api.Rule{rule(true, "*.o"), rule(false, "a b"), rule(false, "#"), rule(true, "a\tb\rc")}
	for want, p := range map[string]api.Profile{
		"": {}, "batch\n": {Batch: true}, "fast\n": {Fast: true}, "prefer a\n": {Prefer: api.A}, "prefer b\n": {Prefer: api.B}, "force a\n": {Force: api.A}, "force b\n": {Force: api.B},
		"ignore *.o\nkeep a b\nkeep #\nignore a\tb\rc\n": {Ignore: rules},
		"backup *.o\ndrop a b\ndrop #\nbackup a\tb\rc\n": {Backup: rules},
		"merge union *\nmerge a b c\nmerge union *\n":    {Merge: []api.Program{{Name: "union", Pattern: "*"}, {Name: "a", Pattern: "b c"}, {Name: "union", Pattern: "*"}}},
		"batch\nfast\nprefer b\nforce a\nkeep x\nignore x\nbackup x\ndrop x\nmerge z y\n": {
			Ignore: []api.Rule{rule(false, "x"), rule(true, "x")}, Backup: []api.Rule{rule(true, "x"), rule(false, "x")},
			Merge: []api.Program{{Name: "z", Pattern: "y"}}, Prefer: api.B, Force: api.A, Batch: true, Fast: true},
	} {
		if s, e := prof.Print(p); s != want || e != api.OK {
			t.Errorf("Print of %v is %q, %d", p, s, e)
		}
	}
}

// refused asks that Print answer ErrProfile.
func refused(t *testing.T, p api.Profile) {
	t.Helper()
	if s, e := prof.Print(p); s != "" || e != api.ErrProfile {
		t.Errorf("Print of %s is %.300q, %d", told(p), s, e)
	}
}

// with are profiles that have the pattern, in each list, alone or behind one that is right.
func with(pattern string) []api.Profile {
	return []api.Profile{
		ignoring(rule(true, pattern)), ignoring(rule(false, pattern)), ignoring(rule(true, "a"), rule(false, pattern)),
		backing(rule(true, pattern)), backing(rule(false, pattern)), backing(rule(false, "a"), rule(true, pattern), rule(true, "a")),
		merging("lines", pattern), {Merge: []api.Program{{Name: "a", Pattern: "a"}, {Name: "b", Pattern: pattern}}, Batch: true},
	}
}

// P8.1, P8.2: what no lines say is refused, what is at the edge of it is printed and read back.
func TestPrintEdges(t *testing.T) {
	for _, pattern := range []string{"", " ", "a ", " a", "\ta", "a\t", "\ra", "a\r", "a\nb", "\n", "a\n", "\na", `a\ `, "[", "a//b", "/a", "a/", `a\`, "\xff", rep("a", 401), rep("a", 70000)} {
		for _, p := range with(pattern) {
			refused(t, p)
		}
	}
	for _, pattern := range []string{"a", "a b", "a \t\r b", "#a", "\va", "a\f", "\u00a0", "a\u2003", "\x00", "é", `\ a`, "[ ]", "**", "a/**/b", "batch", "include x", rep("a", 400)} {
		for _, p := range with(pattern) {
			back(t, p)
		}
	}
	for _, program := range []string{"", "A", "aB", "a1", "é", "a b", " a", "a ", "a\n", "\n", "a-b", "`", "{", "\x00", "\xff", "abcdefghijklmnopq", rep("a", 70000)} {
		refused(t, merging(program, "a"))
		refused(t, api.Profile{Merge: []api.Program{{Name: "a", Pattern: "a"}, {Name: program, Pattern: "a"}}})
	}
	for _, program := range []string{"a", "z", "merge", "abcdefghijklmnop", "qrstuvwxyz"} {
		back(t, merging(program, "a"))
	}
	for _, side := range []int{-1, 3, 4, 256, 257, 1 << 32, math.MaxInt, math.MinInt, -2} {
		refused(t, api.Profile{Prefer: side})
		refused(t, api.Profile{Force: side})
		refused(t, api.Profile{Prefer: api.A, Force: side})
		refused(t, api.Profile{Prefer: side, Force: api.B})
	}
}

// P8.1: how many rules Print takes.
func TestPrintRules(t *testing.T) {
	rules := slices.Repeat([]api.Rule{rule(true, "a"), rule(false, "b")}, 60)
	programs := slices.Repeat([]api.Program{{Name: "a", Pattern: "b"}}, 120)
	back(t, api.Profile{Ignore: rules[:100], Backup: rules[1:101], Merge: programs[:100]})
	for n := 101; n <= 120; n++ {
		refused(t, api.Profile{Ignore: rules[:n], Backup: rules[:100]})
		refused(t, api.Profile{Backup: rules[:n]})
		refused(t, api.Profile{Merge: programs[:n]})
	}
}

// back asks that what Print writes say the profile.
func back(t *testing.T, p api.Profile) {
	t.Helper()
	s, e := prof.Print(p)
	if e != api.OK {
		t.Errorf("Print of %s is %.300q, %d", told(p), s, e)
	}
	says(t, named("x", s), "x", p)
}

// P8.2: Parse of what Print writes is the profile.
func TestBothWays(t *testing.T) {
	dice := rand.New(rand.NewSource(10))
	patterns := []string{"a", "*.o", "a b", "#", "é/*", "[!a]", "x\ty", `\*`, "ignore a"}
	for range 2000 {
		p := api.Profile{Prefer: dice.Intn(3), Force: dice.Intn(3), Batch: dice.Intn(2) == 0, Fast: dice.Intn(2) == 0}
		for range dice.Intn(5) * dice.Intn(5) {
			p.Ignore = append(p.Ignore, rule(dice.Intn(2) == 0, anyOf(dice, patterns...)))
		}
		for range dice.Intn(5) * dice.Intn(5) {
			p.Backup = append(p.Backup, rule(dice.Intn(2) == 0, anyOf(dice, patterns...)))
		}
		for range dice.Intn(5) * dice.Intn(5) {
			p.Merge = append(p.Merge, api.Program{Name: anyOf(dice, "lines", "union", "x"), Pattern: anyOf(dice, patterns...)})
		}
		back(t, p)
		texts := anyTexts(dice)
		if q, _, e := prof.Parse(texts, "x"); e == api.OK {
			back(t, q)
		}
	}
}

// P8.1: Print says all of a profile whose lines have more bytes than a text that Parse reads, as the chapter's words have it.
func TestPrintLong(t *testing.T) {
	p := api.Profile{Ignore: slices.Repeat([]api.Rule{rule(true, rep("a", 400))}, 100)}
	back(t, p)
	p.Backup = slices.Repeat([]api.Rule{rule(true, rep("b", 400))}, 100)
	s, e := prof.Print(p)
	if s != rep("ignore "+rep("a", 400)+"\n", 100)+rep("backup "+rep("b", 400)+"\n", 100) || e != api.OK {
		t.Errorf("Print of a long profile is %.300q, %d", s, e)
	}
	fails(t, named("x", s), "x", "x", 0, api.ErrText)
}

// P8.4: what is handed in isn't changed, nor the room behind it.
func TestHandedIn(t *testing.T) {
	room := named("x", "include y\nignore a\nprefer b", "y", "backup c\nmerge p d", "x", "?", "z", "?")
	before := slices.Clone(room)
	rules := []api.Rule{rule(true, "a"), rule(false, "b"), rule(true, "[")}
	programs := []api.Program{{Name: "p", Pattern: "a"}, {Name: "q", Pattern: "b"}, {}}
	rules0, programs0 := slices.Clone(rules), slices.Clone(programs)
	for n := range room {
		prof.Parse(room[:n], "x")
		prof.Parse(room[:n], "z")
	}
	for n := range 4 {
		prof.Print(api.Profile{Ignore: rules[:n], Backup: rules[:n], Merge: programs[:n]})
	}
	if !slices.Equal(room, before) || !slices.Equal(rules, rules0) || !slices.Equal(programs, programs0) {
		t.Error("what was handed in is changed")
	}
}

// P8.4: what is handed in isn't kept, and lists that are answered are new memory, each with room of its own.
func TestAnswersAreNew(t *testing.T) {
	texts := named("x", "include y\nignore a\nbackup b\nmerge p c\ninclude y", "y", "keep a\ndrop b\nmerge q c")
	want := api.Profile{
		Ignore: []api.Rule{rule(false, "a"), rule(true, "a"), rule(false, "a")}, Backup: []api.Rule{rule(false, "b"), rule(true, "b"), rule(false, "b")},
		Merge: []api.Program{{Name: "q", Pattern: "c"}, {Name: "p", Pattern: "c"}, {Name: "q", Pattern: "c"}},
	}
	says(t, texts, "x", want)
	p, _, _ := prof.Parse(texts, "x")
	q, _, _ := prof.Parse(texts, "x")
	clear(p.Ignore[:cap(p.Ignore)])
	if !slices.Equal(p.Backup, want.Backup) || !slices.Equal(p.Merge, want.Merge) {
		t.Error("lists of one answer share memory")
	}
	clear(p.Backup[:cap(p.Backup)])
	clear(p.Merge[:cap(p.Merge)])
	if !same(q, want) {
		t.Error("lists of two answers share memory")
	}
	says(t, texts, "x", want)
	// Texts of the same names, in the same memory, that say something else.
	texts[0].Text, texts[1].Text = "include y", "fast"
	says(t, texts, "x", api.Profile{Fast: true})
	if !same(q, want) {
		t.Error("an answer has changed with what was handed in")
	}
}

// R7: what was asked before says nothing to the next call.
func TestOneAnswer(t *testing.T) {
	for range 3 {
		says(t, named("x", "include y", "y", "fast"), "x", api.Profile{Fast: true})
		says(t, named("x", "include y", "y", "batch"), "x", api.Profile{Batch: true})
		fails(t, named("x", "include y"), "x", "x", 1, api.ErrInclude)
		fails(t, named("x", "include y", "y", "include x"), "x", "y", 1, api.ErrCycle)
	}
}
