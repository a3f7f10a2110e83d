package plan_test

import (
	"slices"

	"hawser/api"
	"hawser/glob"
)

// The same answers by other means than the program's: each list is gone through anew for each thing that is asked, and what counts least is laid first, so that what counts more is laid over it.

// asked is what Make is handed.
type asked struct {
	items   []api.Item
	profile api.Profile
	choices []api.Choice
}

// answered is what Make answers.
type answered struct {
	done []api.Choice
	at   int
	err  api.Errno
}

// slowProgram is the name of the last of the programs that matches the path.
func slowProgram(p api.Profile, path string) string {
	found := ""
	for _, m := range p.Merge {
		if glob.Match(m.Pattern, path) {
			found = m.Name
		}
	}
	return found
}

// slowMake is what Make is to answer.
func slowMake(x asked) answered {
	for n, i := range x.items {
		if i.What < 1 || i.What > 4 || slices.ContainsFunc(x.items[:n], func(j api.Item) bool { return j.Path == i.Path }) {
			return answered{nil, n, 91}
		}
	}
	for n, c := range x.choices {
		if !slowChoosable(x.items, c) || slices.ContainsFunc(x.choices[:n], func(d api.Choice) bool { return d.Path == c.Path }) {
			return answered{nil, n, 130}
		}
	}
	var done []api.Choice
	for _, i := range x.items {
		if i.What > 1 {
			done = append(done, api.Choice{Path: i.Path, Do: slowDo(i, x.profile, x.choices)})
		}
	}
	return answered{done, 0, 0}
}

// slowChoosable tells whether there is an item at which this can be chosen.
func slowChoosable(items []api.Item, c api.Choice) bool {
	return slices.ContainsFunc(items, func(i api.Item) bool {
		most := map[int]int{2: 4, 3: 4, 4: 3}
		return i.Path == c.Path && i.What > 1 && c.Do >= 0 && c.Do <= most[i.What]
	})
}

// slowDo is what is done at an item.
func slowDo(i api.Item, p api.Profile, choices []api.Choice) int {
	do := 0
	if i.What == 4 {
		if p.Prefer == 1 || p.Prefer == 2 {
			do = p.Prefer
		}
		if slowProgram(p, i.Path) != "" {
			do = 3
		}
	} else if p.Batch {
		do = 4
	}
	if p.Force == 1 || p.Force == 2 {
		do = p.Force
	}
	for _, c := range choices {
		if c.Path == i.Path {
			do = c.Do
		}
	}
	if do == 4 {
		do = i.What - 1
	}
	return do
}
