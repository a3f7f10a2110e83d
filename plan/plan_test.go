package plan_test

import (
	"fmt"
	"math"
	"math/rand"
	"slices"
	"strconv"
	"strings"
	"testing"

	"hawser/api"
	"hawser/plan"
)

// made is Make's answer.
func made(x asked) answered {
	done, at, e := plan.Make(x.items, x.profile, x.choices)
	return answered{done, at, e}
}

// same tells whether both answers are the same.
func same(a, b answered) bool {
	return slices.Equal(a.done, b.done) && a.at == b.at && a.err == b.err
}

// check asks for an answer.
func check(t *testing.T, x asked, want answered) {
	t.Helper()
	if got := made(x); !same(got, want) {
		t.Errorf("Make of %.500s is %.300s, not %.300s", fmt.Sprintf("%+v", x), fmt.Sprintf("%+v", got), fmt.Sprintf("%+v", want))
	}
}

// two are the items of the chapter's examples.
func two() []api.Item { return []api.Item{{Path: "x", What: api.ToB}, {Path: "y", What: api.Clash}} }

// dos is an answer that does these, at x and at y.
func dos(x, y int) answered {
	return answered{[]api.Choice{{Path: "x", Do: x}, {Path: "y", Do: y}}, 0, api.OK}
}

// merges is a profile with these programs, told as names and patterns by turns.
func merges(words ...string) api.Profile {
	var p api.Profile
	for pair := range slices.Chunk(words, 2) {
		p.Merge = append(p.Merge, api.Program{Name: pair[0], Pattern: pair[1]})
	}
	return p
}

// P13.1: the chapter's examples.
func TestExamples(t *testing.T) {
	refused := answered{nil, 0, api.ErrChoice}
	check(t, asked{items: two()}, dos(api.Skip, api.Skip))
	check(t, asked{items: two(), profile: api.Profile{Batch: true}}, dos(api.FromA, api.Skip))
	check(t, asked{items: two(), profile: api.Profile{Batch: true, Prefer: api.B}}, dos(api.FromA, api.FromB))
	check(t, asked{items: two(), choices: []api.Choice{{Path: "x", Do: api.Go}}}, dos(api.FromA, api.Skip))
	check(t, asked{items: two(), choices: []api.Choice{{Path: "y", Do: api.Go}}}, refused)
	check(t, asked{items: two(), choices: []api.Choice{{Path: "z", Do: api.Skip}}}, refused)
	check(t, asked{items: two(), profile: merges("lines", "*")}, dos(api.Skip, api.Merge))
}

// one is an answer that does this at x.
func one(do int) answered { return answered{[]api.Choice{{Path: "x", Do: do}}, 0, api.OK} }

// P13.1: which of several that apply at an item counts, written out.
func TestWhatApplies(t *testing.T) {
	lines := merges("lines", "*").Merge
	none := -1
	for _, r := range []struct {
		what    int
		profile api.Profile
		choice  int
		want    int
	}{
		{api.ToB, api.Profile{}, none, api.Skip},
		{api.ToA, api.Profile{}, none, api.Skip},
		{api.Clash, api.Profile{}, none, api.Skip},
		{api.ToB, api.Profile{Batch: true}, none, api.FromA},
		{api.ToA, api.Profile{Batch: true}, none, api.FromB},
		{api.Clash, api.Profile{Batch: true}, none, api.Skip},
		{api.ToB, api.Profile{Prefer: api.B}, none, api.Skip},
		{api.ToA, api.Profile{Prefer: api.A}, none, api.Skip},
		{api.ToB, api.Profile{Prefer: api.B, Batch: true}, none, api.FromA},
		{api.ToA, api.Profile{Prefer: api.A, Batch: true}, none, api.FromB},
		{api.Clash, api.Profile{Prefer: api.A}, none, api.FromA},
		{api.Clash, api.Profile{Prefer: api.B}, none, api.FromB},
		{api.ToB, api.Profile{Merge: lines}, none, api.Skip},
		{api.ToB, api.Profile{Merge: lines, Batch: true}, none, api.FromA},
		{api.ToA, api.Profile{Merge: lines, Prefer: api.A}, none, api.Skip},
		{api.Clash, api.Profile{Merge: lines}, none, api.Merge},
		{api.Clash, api.Profile{Merge: lines, Prefer: api.B, Batch: true}, none, api.Merge},
		{api.ToB, api.Profile{Force: api.A}, none, api.FromA},
		{api.ToB, api.Profile{Force: api.B, Batch: true}, none, api.FromB},
		{api.ToA, api.Profile{Force: api.A, Batch: true, Prefer: api.B}, none, api.FromA},
		{api.Clash, api.Profile{Force: api.A, Merge: lines, Prefer: api.B}, none, api.FromA},
		{api.ToB, api.Profile{Force: api.B}, api.Go, api.FromA},
		{api.ToA, api.Profile{Force: api.A}, api.Go, api.FromB},
		{api.ToA, api.Profile{Force: api.A, Batch: true}, api.Skip, api.Skip},
		{api.ToB, api.Profile{Batch: true}, api.FromB, api.FromB},
		{api.ToA, api.Profile{}, api.FromA, api.FromA},
		{api.ToB, api.Profile{}, api.Merge, api.Merge},
		{api.Clash, api.Profile{Merge: lines}, api.Skip, api.Skip},
		{api.Clash, api.Profile{Merge: lines, Force: api.A}, api.FromB, api.FromB},
		{api.Clash, api.Profile{Prefer: api.A}, api.Merge, api.Merge},
		{api.Clash, api.Profile{}, api.FromA, api.FromA},
	} {
		x := asked{items: []api.Item{{Path: "x", What: r.what}}, profile: r.profile}
		if r.choice != none {
			x.choices = []api.Choice{{Path: "x", Do: r.choice}}
		}
		check(t, x, one(r.want))
	}
}

// profiles are all profiles of these sides, some of which are none, with batch and without, with a program for x, with one for others, with none.
func profiles() []api.Profile {
	var all []api.Profile
	sides := []int{0, api.A, api.B, 3, -1, math.MaxInt, math.MinInt}
	for _, p := range []api.Profile{{}, merges("lines", "x"), merges("lines", "y"), merges("", "x"), merges("union", "x", "", "x"), merges("", "x", "union", "x")} {
		for _, p.Force = range sides {
			for _, p.Prefer = range sides {
				for _, p.Batch = range []bool{false, true} {
					all = append(all, p)
				}
			}
		}
	}
	return all
}

// numbers are what may stand for What and Do, and what may not.
func numbers() []int { return []int{-1, 0, 1, 2, 3, 4, 5, 6, math.MaxInt, math.MinInt} }

// P13.1: one item, all that it may tell, all profiles, all choices.
func TestAllOfOne(t *testing.T) {
	for _, p := range profiles() {
		for _, what := range numbers() {
			x := asked{items: []api.Item{{Path: "x", What: what}}, profile: p}
			check(t, x, slowMake(x))
			for _, do := range numbers() {
				x.choices = []api.Choice{{Path: "x", Do: do}}
				check(t, x, slowMake(x))
				x.choices = []api.Choice{{Path: "y", Do: do}}
				check(t, x, slowMake(x))
			}
		}
	}
}

// P13.1: items keep their order, whatever it is; those that are Agreed are left out; with none there is nothing to do.
func TestOrder(t *testing.T) {
	check(t, asked{}, answered{})
	check(t, asked{profile: api.Profile{Force: api.A, Batch: true}}, answered{})
	check(t, asked{items: []api.Item{{Path: "", What: api.Agreed}}, profile: api.Profile{Force: api.A}}, answered{})
	items := []api.Item{{Path: "z", What: api.ToA}, {Path: "a", What: api.Agreed}, {Path: "m/n", What: api.Clash}, {Path: "b", What: api.ToB}, {Path: "m", What: api.Agreed}, {Path: "", What: api.ToB}}
	choices := []api.Choice{{Path: "", Do: api.FromB}, {Path: "z", Do: api.Go}}
	check(t, asked{items, api.Profile{Prefer: api.A}, choices}, answered{[]api.Choice{{Path: "z", Do: api.FromB}, {Path: "m/n", Do: api.FromA}, {Path: "b", Do: api.Skip}, {Path: "", Do: api.FromB}}, 0, api.OK})
}

// P13.1: an item's path may be any text; of what is no path no program is.
func TestAnyPath(t *testing.T) {
	all := []string{"", "/", "a//b", "a/", "..", "\x00", "\xff", "\xfe", "*", strings.Repeat("a", 65), strings.Repeat("a/", 16) + "a", strings.Repeat("x", 70000), "a", "a/b", "é", "a ", "A"}
	paths := map[string]bool{"*": true, "a": true, "a/b": true, "é": true, "a ": true, "A": true}
	x := asked{profile: merges("lines", "**")}
	var want answered
	for _, p := range all {
		do := api.Skip
		if paths[p] {
			do = api.Merge
		}
		x.items = append(x.items, api.Item{Path: p, What: api.Clash})
		want.done = append(want.done, api.Choice{Path: p, Do: do})
	}
	check(t, x, want)
	for i := range all {
		x.choices = append(x.choices, api.Choice{Path: all[i], Do: api.FromB})
		want.done[i].Do = api.FromB
		check(t, x, want)
	}
	for _, p := range all {
		twice := asked{items: append(slices.Clone(x.items), api.Item{Path: p, What: api.ToA}), choices: x.choices}
		check(t, twice, answered{nil, len(all), api.ErrItems})
		again := asked{items: x.items, choices: append(slices.Clone(x.choices), api.Choice{Path: p, Do: api.Skip})}
		check(t, again, answered{nil, len(all), api.ErrChoice})
	}
}

// P13.1: the first item that may not be is told, ahead of any choice, and nothing with it.
func TestItemsRefused(t *testing.T) {
	good, clash := api.Item{Path: "a", What: api.ToB}, api.Item{Path: "b", What: api.Clash}
	wrong := []api.Choice{{Path: "none", Do: 9}}
	for _, r := range []struct {
		items []api.Item
		at    int
	}{
		{[]api.Item{{Path: "a"}}, 0},
		{[]api.Item{{Path: "a", What: 5}}, 0},
		{[]api.Item{{Path: "a", What: -1}}, 0},
		{[]api.Item{{Path: "a", What: math.MaxInt}, {Path: "b", What: math.MinInt}}, 0},
		{[]api.Item{good, {Path: "b"}}, 1},
		{[]api.Item{good, clash, good}, 2},
		{[]api.Item{good, clash, clash, good, {Path: "c", What: 7}}, 2},
		{[]api.Item{good, clash, {Path: "c", What: 7}, clash}, 2},
		{[]api.Item{good, clash, {Path: "a", What: api.ToA}}, 2},
		{[]api.Item{good, {Path: "a", What: api.Agreed}}, 1},
		{[]api.Item{{Path: "a", What: api.Agreed}, clash, good}, 2},
		{[]api.Item{{Path: "a", What: api.Agreed}, {Path: "a", What: api.Agreed}}, 1},
		{[]api.Item{{Path: "", What: api.Clash}, {Path: "", What: api.Clash}}, 1},
	} {
		for _, p := range []api.Profile{{}, {Force: api.A}, {Batch: true, Prefer: api.B}} {
			check(t, asked{r.items, p, nil}, answered{nil, r.at, api.ErrItems})
			check(t, asked{r.items, p, wrong}, answered{nil, r.at, api.ErrItems})
		}
	}
}

// P13.1: the first choice that may not be is told, and nothing with it.
func TestChoicesRefused(t *testing.T) {
	items := []api.Item{{Path: "a", What: api.ToA}, {Path: "b", What: api.ToB}, {Path: "c", What: api.Clash}, {Path: "d", What: api.Agreed}, {Path: "e/f", What: api.ToB}}
	goA, goB, merge := api.Choice{Path: "a", Do: api.Go}, api.Choice{Path: "b", Do: api.Go}, api.Choice{Path: "c", Do: api.Merge}
	for _, r := range []struct {
		choices []api.Choice
		at      int
	}{
		{[]api.Choice{{Path: "d", Do: api.Skip}}, 0},
		{[]api.Choice{{Path: "d", Do: api.Go}}, 0},
		{[]api.Choice{{Path: "", Do: api.Skip}}, 0},
		{[]api.Choice{{Path: "e", Do: api.Skip}}, 0},
		{[]api.Choice{{Path: "e/f/g", Do: api.Skip}}, 0},
		{[]api.Choice{{Path: "c", Do: api.Go}}, 0},
		{[]api.Choice{{Path: "a", Do: 5}}, 0},
		{[]api.Choice{{Path: "a", Do: -1}}, 0},
		{[]api.Choice{{Path: "c", Do: math.MaxInt}}, 0},
		{[]api.Choice{{Path: "c", Do: math.MinInt}}, 0},
		{[]api.Choice{goA, goA}, 1},
		{[]api.Choice{goA, goB, merge, {Path: "a", Do: api.Skip}}, 3},
		{[]api.Choice{{Path: "b", Do: api.Skip}, goA, goB}, 2},
		{[]api.Choice{goA, {Path: "b", Do: 6}, {Path: "c", Do: api.Go}}, 1},
		{[]api.Choice{goB, goA, {Path: "c", Do: api.Go}, {Path: "d"}}, 2},
		{[]api.Choice{goB, {Path: "z"}, goB}, 1},
	} {
		for _, p := range []api.Profile{{}, {Force: api.B}, {Batch: true, Prefer: api.A}} {
			check(t, asked{items, p, r.choices}, answered{nil, r.at, api.ErrChoice})
			check(t, asked{items, p, r.choices[:r.at]}, slowMake(asked{items, p, r.choices[:r.at]}))
			if _, at, e := plan.Make(items, p, r.choices[:r.at]); at != 0 || e != api.OK {
				t.Errorf("%v is refused: %d, %d", r.choices[:r.at], at, e)
			}
		}
	}
}

// P13.1: the program of a path.
func TestProgram(t *testing.T) {
	for _, r := range []struct {
		p    api.Profile
		path string
		want string
	}{
		{api.Profile{}, "x", ""},
		{merges("lines", "*"), "x", "lines"},
		{merges("lines", "*"), "d/x", "lines"},
		{merges("lines", "*"), "", ""},
		{merges("lines", "**"), "", ""},
		{merges("lines", "**"), "/x", ""},
		{merges("lines", "**"), "x/", ""},
		{merges("lines", "**"), "x\xff", ""},
		{merges("lines", "**"), strings.Repeat("x", 65), ""},
		{merges("lines", "**"), strings.Repeat("x", 64), "lines"},
		{merges("lines", "*.txt"), "x", ""},
		{merges("lines", "*.txt"), "d/x.txt", "lines"},
		{merges("lines", "d/*.txt"), "e/x.txt", ""},
		{merges("lines", "*", "union", "x"), "x", "union"},
		{merges("lines", "*", "union", "x"), "d/y", "lines"},
		{merges("union", "x", "lines", "*"), "x", "lines"},
		{merges("lines", "*", "union", "["), "x", "lines"},
		{merges("lines", "*", "union", ""), "x", "lines"},
		{merges("lines", "*", "union", strings.Repeat("*", 401)), "x", "lines"},
		{merges("lines", "*", "union", strings.Repeat("*", 400)), "x", "union"},
		{merges("lines", "[", "union", "a//b"), "x", ""},
		{merges("lines", "*", "", "x"), "x", ""},
		{merges("", "*", "lines", "x"), "x", "lines"},
		{merges("No program\n\xff", "x"), "x", "No program\n\xff"},
		{merges(strings.Repeat("n", 1000), "x"), "x", strings.Repeat("n", 1000)},
		{merges("lines", "d"), "d/x", ""},
		{merges("lines", "d/**"), "d/x", "lines"},
	} {
		// What else the profile says is nothing to it.
		full := api.Profile{Merge: r.p.Merge, Ignore: []api.Rule{{Ignore: true, Pattern: "*"}}, Backup: []api.Rule{{Pattern: "**"}}, Force: api.B, Prefer: api.A, Batch: true, Fast: true}
		if got, other := plan.Program(r.p, r.path), plan.Program(full, r.path); got != r.want || other != r.want {
			t.Errorf("Program of %v at %q is %.100q and %.100q, not %.100q", r.p.Merge, r.path, got, other, r.want)
		}
	}
}

// P13.1: of more programs than a profile's lines may tell the last one that matches counts too.
func TestManyPrograms(t *testing.T) {
	var p api.Profile
	for i := range 5000 {
		p.Merge = append(p.Merge, api.Program{Name: strconv.Itoa(i), Pattern: strconv.Itoa(i % 50)})
	}
	for i := range 50 {
		if got := plan.Program(p, "d/"+strconv.Itoa(i)); got != strconv.Itoa(4950+i) {
			t.Errorf("the program of %d is %s", i, got)
		}
	}
	if got := plan.Program(p, "50"); got != "" {
		t.Errorf("the program of 50 is %s", got)
	}
}

// P13.1: a program counts just at the clashes whose paths it is of, and a profile's other lists nowhere.
func TestWhereProgramsCount(t *testing.T) {
	items := []api.Item{{Path: "a.txt", What: api.Clash}, {Path: "d/b.txt", What: api.ToB}, {Path: "d/c.txt", What: api.Clash}, {Path: "d/c.bin", What: api.Clash}, {Path: "e.txt", What: api.ToA}}
	p := merges("lines", "*.txt", "", "a.*")
	p.Ignore = []api.Rule{{Ignore: true, Pattern: "**"}}
	p.Backup = []api.Rule{{Ignore: true, Pattern: "**"}}
	p.Fast = true
	want := answered{[]api.Choice{{Path: "a.txt", Do: api.Skip}, {Path: "d/b.txt", Do: api.Skip}, {Path: "d/c.txt", Do: api.Merge}, {Path: "d/c.bin", Do: api.Skip}, {Path: "e.txt", Do: api.Skip}}, 0, api.OK}
	check(t, asked{items: items, profile: p}, want)
	p.Prefer = api.A
	want.done[0].Do, want.done[3].Do = api.FromA, api.FromA
	check(t, asked{items: items, profile: p}, want)
}

// anyPath is one of a few paths, some of which are none.
func anyPath(dice *rand.Rand) string {
	return []string{"", "a", "b", "c", "d/a", "d/b", "d/e/f", "a//b", "\xff", "x.txt", "d/x.txt"}[dice.Intn(11)]
}

// anyProfile is any profile, as a rule one that says little.
func anyProfile(dice *rand.Rand) api.Profile {
	sides := []int{0, 0, 0, api.A, api.B, 3, -1}
	p := api.Profile{Force: sides[dice.Intn(7)] * dice.Intn(2), Prefer: sides[dice.Intn(7)], Batch: dice.Intn(2) == 0, Fast: dice.Intn(2) == 0}
	for range dice.Intn(4) {
		pattern := []string{"a", "d/*", "*", "**", "*.txt", "d/**/f", "[", ""}[dice.Intn(8)]
		p.Merge = append(p.Merge, api.Program{Name: []string{"lines", "union", "other", ""}[dice.Intn(4)], Pattern: pattern})
		p.Ignore = append(p.Ignore, api.Rule{Ignore: dice.Intn(2) == 0, Pattern: pattern})
	}
	return p
}

// anyAsked is a few items, any profile, and choices: where strict is set, with nothing in them that may not be.
func anyAsked(dice *rand.Rand, strict bool) asked {
	x := asked{profile: anyProfile(dice)}
	for range dice.Intn(7) {
		i := api.Item{Path: anyPath(dice), What: 1 + dice.Intn(4)}
		if !strict && dice.Intn(30) == 0 {
			i.What = dice.Intn(9) - 2
		}
		x.items = append(x.items, i)
		if (strict || dice.Intn(10) > 0) && slowMake(asked{items: x.items}).err != 0 {
			x.items = x.items[:len(x.items)-1]
		}
	}
	for range dice.Intn(5) {
		c := api.Choice{Path: anyPath(dice), Do: dice.Intn(5)}
		if !strict && dice.Intn(30) == 0 {
			c.Do = dice.Intn(9) - 2
		}
		x.choices = append(x.choices, c)
		if (strict || dice.Intn(10) > 0) && slowMake(x).err != 0 {
			x.choices = x.choices[:len(x.choices)-1]
		}
	}
	return x
}

// P13.1: any items, profile and choices.
func TestAny(t *testing.T) {
	dice := rand.New(rand.NewSource(1))
	seen := map[string]int{}
	for range 40000 {
		x := anyAsked(dice, false)
		want := slowMake(x)
		check(t, x, want)
		seen["error "+strconv.Itoa(int(want.err))+" at "+strconv.Itoa(min(want.at, 1))]++
		for _, c := range want.done {
			seen["do "+strconv.Itoa(c.Do)]++
		}
		for range 3 {
			path := anyPath(dice)
			if got := plan.Program(x.profile, path); got != slowProgram(x.profile, path) {
				t.Fatalf("Program of %v at %q is %q", x.profile.Merge, path, got)
			}
		}
	}
	for _, kind := range []string{"error 0 at 0", "error 91 at 0", "error 91 at 1", "error 130 at 0", "error 130 at 1", "do 0", "do 1", "do 2", "do 3"} {
		if seen[kind] < 50 {
			t.Errorf("%s: seen %d times", kind, seen[kind])
		}
	}
}

// P13.1: very many items and choices.
func TestVeryMany(t *testing.T) {
	const many = 200000
	x := asked{profile: api.Profile{Prefer: api.B, Batch: true}}
	var want answered
	for i := range many {
		item := api.Item{Path: strconv.Itoa(i), What: 1 + i%4}
		x.items = append(x.items, item)
		if item.What == api.Agreed {
			continue
		}
		x.choices = append(x.choices, api.Choice{Path: item.Path, Do: api.Merge})
		want.done = append(want.done, api.Choice{Path: item.Path, Do: api.Merge})
	}
	check(t, x, want)
	x.choices = append(x.choices, x.choices[0])
	check(t, x, answered{nil, len(x.choices) - 1, api.ErrChoice})
	x.choices = nil
	for i, c := range want.done {
		want.done[i].Do = map[int]int{1: api.FromA, 2: api.FromB, 3: api.FromB}[number(c.Path)%4]
	}
	check(t, x, want)
	x.items = append(x.items, x.items[many-1])
	check(t, x, answered{nil, many, api.ErrItems})
}

// number is the number that a text tells.
func number(s string) int {
	n, _ := strconv.Atoi(s)
	return n
}

// P13.2: without choices, Force, Prefer, Batch and programs all is skipped.
func TestNothingUnasked(t *testing.T) {
	dice := rand.New(rand.NewSource(2))
	for range 5000 {
		x := anyAsked(dice, true)
		x.choices, x.profile.Force, x.profile.Prefer, x.profile.Batch, x.profile.Merge = nil, 0, 0, false, nil
		got := made(x)
		if got.err != api.OK || slices.ContainsFunc(got.done, func(c api.Choice) bool { return c.Do != api.Skip }) {
			t.Fatalf("%+v: %+v", x, got)
		}
	}
}

// P13.2: a choice is what is done; a choice more changes what is done at its path alone.
func TestChoiceMore(t *testing.T) {
	dice := rand.New(rand.NewSource(3))
	tried := 0
	for range 10000 {
		x := anyAsked(dice, true)
		before := made(x)
		for n, i := range x.items {
			for do := api.Skip; do <= api.Go; do++ {
				more := asked{x.items, x.profile, slices.Insert(slices.Clone(x.choices), dice.Intn(len(x.choices)+1), api.Choice{Path: i.Path, Do: do})}
				behind := made(more)
				if i.What == api.Agreed || i.What == api.Clash && do == api.Go || slices.ContainsFunc(x.choices, func(c api.Choice) bool { return c.Path == i.Path }) {
					if behind.err != api.ErrChoice || len(behind.done) > 0 {
						t.Fatalf("%+v: %+v", more, behind)
					}
					continue
				}
				want := slices.Clone(before.done)
				for k, c := range want {
					if c.Path == i.Path {
						want[k].Do = done(do, x.items[n].What)
					}
				}
				tried++
				if !same(behind, answered{want, 0, api.OK}) {
					t.Fatalf("%+v: %+v, not %+v", more, behind, want)
				}
			}
		}
	}
	if tried < 10000 {
		t.Errorf("only %d were tried", tried)
	}
}

// done is how a choice is told at an item.
func done(do, what int) int {
	if do == api.Go {
		return map[int]int{api.ToB: api.FromA, api.ToA: api.FromB}[what]
	}
	return do
}

// P13.3: without a choice and Force nothing goes against an item's direction, where it isn't a clash; nor is anything merged there.
func TestDirection(t *testing.T) {
	dice := rand.New(rand.NewSource(4))
	gone := 0
	for range 20000 {
		x := anyAsked(dice, true)
		x.choices = nil
		what := map[string]int{}
		for _, i := range x.items {
			what[i.Path] = i.What
		}
		forced := x.profile.Force == api.A || x.profile.Force == api.B
		for _, c := range made(x).done {
			if what[c.Path] == api.Clash {
				continue
			}
			if forced && c.Do != x.profile.Force || !forced && c.Do != api.Skip && c.Do != done(api.Go, what[c.Path]) {
				t.Fatalf("%+v: %+v", x, c)
			}
			gone += min(1, c.Do)
		}
	}
	if gone < 5000 {
		t.Errorf("only %d have gone", gone)
	}
}

// roomy is a list with room behind it, in which something stands.
func roomy[T any](l []T, spare T) []T {
	room := append(slices.Clone(l), slices.Repeat([]T{spare}, 8)...)
	return room[:len(l):len(room)]
}

// spoil changes all that a list has, and the room behind it.
func spoil[T any](l []T, with T) {
	l = l[:cap(l)]
	for i := range l {
		l[i] = with
	}
}

// untouched tells whether a list and the room behind it are as roomy made them.
func untouched[T comparable](l, was []T, spare T) bool {
	behind := l[len(l):cap(l)]
	return slices.Equal(l, was) && !slices.ContainsFunc(behind, func(x T) bool { return x != spare })
}

// P13.4: what is handed in stays as it was, with the room behind it, and isn't kept; answers are new memory.
func TestMemory(t *testing.T) {
	item, choice, program, rule := api.Item{Path: "spare", What: 9}, api.Choice{Path: "spare", Do: 9}, api.Program{Name: "spare", Pattern: "**"}, api.Rule{Pattern: "spare"}
	dice := rand.New(rand.NewSource(5))
	for range 3000 {
		x := anyAsked(dice, dice.Intn(4) > 0)
		want := slowMake(x)
		in := asked{roomy(x.items, item), x.profile, roomy(x.choices, choice)}
		in.profile.Merge, in.profile.Ignore = roomy(x.profile.Merge, program), roomy(x.profile.Ignore, rule)
		first, second := made(in), made(in)
		plan.Program(in.profile, "a")
		if !untouched(in.items, x.items, item) || !untouched(in.choices, x.choices, choice) || !untouched(in.profile.Merge, x.profile.Merge, program) || !untouched(in.profile.Ignore, x.profile.Ignore, rule) {
			t.Fatalf("%+v became %+v", x, in)
		}
		spoil(second.done, choice)
		if !same(first, want) || !same(made(in), want) || !untouched(in.choices, x.choices, choice) {
			t.Fatalf("%+v: an answer hangs on another one, or on what was handed in", x)
		}
		spoil(in.items, item)
		spoil(in.choices, choice)
		spoil(in.profile.Merge, program)
		if !same(first, want) || !same(made(x), want) {
			t.Fatalf("%+v: what was handed in is kept", x)
		}
	}
}
