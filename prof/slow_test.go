package prof_test

import (
	"math/rand"
	"regexp"
	"slices"
	"strconv"
	"strings"

	"hawser/api"
	"hawser/glob"
)

// What texts say, by other means than the program's: lines are told apart by a regular expression, and each include gives way to the other's lines, as often as it stands there.

// forms tells what a line says: a rule (1, 2), a program (3, 4), a side (5, 6), a flag (7), or a text to be included (8, 9).
var forms = regexp.MustCompile(strings.NewReplacer("BLANK", `[\t\r ]`, "REST", `[^\t\r ](?:.*[^\t\r ])?`).Replace(
	`(?s)^BLANK*(?:|#.*|(ignore|keep|backup|drop)BLANK+(REST)|mergeBLANK+([a-z]{1,16})BLANK+(REST)|(prefer|force)BLANK+([ab])|(batch|fast)|(include)(?:BLANK+(REST))?)BLANK*$`))

// slowLine is a line with its place, and the names of the texts that it stands in.
type slowLine struct {
	line   string
	at     api.Text
	within []string
}

// slowLines are the lines of the first text of a name; or there is an error, that of the line or of the text itself.
func slowLines(texts []api.Text, name string, from api.Text, within []string) ([]slowLine, api.Text, api.Errno) {
	at := slices.IndexFunc(texts, func(t api.Text) bool { return t.Name == name })
	switch {
	case at < 0:
		return nil, from, api.ErrInclude
	case slices.Contains(within, name):
		return nil, from, api.ErrCycle
	case len(within) > 7:
		return nil, from, api.ErrProfile
	case len(texts[at].Text) > 65536:
		return nil, api.Text{Name: name, Text: "0"}, api.ErrText
	}
	var lines []slowLine
	for i, line := range strings.Split(texts[at].Text, "\n") {
		lines = append(lines, slowLine{line, api.Text{Name: name, Text: strconv.Itoa(i + 1)}, append(slices.Clone(within), name)})
	}
	return lines, api.Text{}, api.OK
}

// slowParse is Parse; behind it the lines that were gone through, without those that include.
func slowParse(texts []api.Text, name string) (api.Profile, api.Text, api.Errno, []string) {
	var p api.Profile
	var gone []string
	todo, where, e := slowLines(texts, name, api.Text{Name: name, Text: "0"}, nil)
	for e == api.OK && len(todo) > 0 {
		next := todo[0]
		todo = todo[1:]
		said := forms.FindStringSubmatch(next.line)
		if said != nil && said[8] != "" {
			var more []slowLine
			more, where, e = slowLines(texts, said[9], next.at, next.within)
			todo = append(more, todo...)
			continue
		}
		if said == nil || !slowSay(&p, said) || len(p.Ignore) == 101 || len(p.Backup) == 101 || len(p.Merge) == 101 {
			where, e = next.at, api.ErrProfile
		}
		gone = append(gone, next.line)
	}
	if e != api.OK {
		return api.Profile{}, where, e, nil
	}
	return p, api.Text{}, api.OK, gone
}

// slowSay adds what a line says, if its pattern is one.
func slowSay(p *api.Profile, said []string) bool {
	side := map[string]int{"a": 1, "b": 2}[said[6]]
	switch said[1] + said[5] + said[7] {
	case "ignore", "keep":
		p.Ignore = append(p.Ignore, api.Rule{Ignore: said[1] == "ignore", Pattern: said[2]})
	case "backup", "drop":
		p.Backup = append(p.Backup, api.Rule{Ignore: said[1] == "backup", Pattern: said[2]})
	case "prefer":
		p.Prefer = side
	case "force":
		p.Force = side
	case "batch":
		p.Batch = true
	case "fast":
		p.Fast = true
	}
	if said[3] != "" {
		p.Merge = append(p.Merge, api.Program{Name: said[3], Pattern: said[4]})
	}
	_, e := glob.Check(said[2] + said[4])
	return e == api.OK || said[2]+said[4] == ""
}

// anyOf is one of these.
func anyOf(dice *rand.Rand, all ...string) string { return all[dice.Intn(len(all))] }

// anyTexts are some texts, each of which mostly includes those that come soon behind it.
func anyTexts(dice *rand.Rand) []api.Text {
	names := []string{"x", "y", "z", "#", "a b", "", "é", "include", "p", "q", "r", "\xff"}
	wild, far := dice.Intn(3) == 0, 1+dice.Intn(4)
	var texts []api.Text
	for i := range names {
		var lines []string
		for range dice.Intn(5) {
			lines = append(lines, anyLine(dice, wild))
		}
		for range dice.Intn(3) {
			to := i + 1 + dice.Intn(far)
			if wild && dice.Intn(12) == 0 {
				to = dice.Intn(len(names))
			}
			if to < len(names) {
				lines = slices.Insert(lines, dice.Intn(len(lines)+1), "include "+names[to])
			}
		}
		if wild && dice.Intn(20) == 0 {
			lines = append(lines, anyOf(dice, "include gone", "include", rep("#", 65537)))
		}
		if dice.Intn(8) == 0 {
			lines = append(lines, strings.Repeat(anyOf(dice, "ignore a", "drop b", "merge c d")+"\n", dice.Intn(102)))
		}
		texts = append(texts, api.Text{Name: names[i], Text: strings.Join(lines, "\n")})
	}
	return texts
}

// anyLine is a line that includes nothing, and is mostly right.
func anyLine(dice *rand.Rand, wild bool) string {
	line := anyOf(dice, "ignore *.o", "keep a/b", "backup **", "drop x y", "merge lines *.txt", "merge x [a-b] c", "prefer a", "prefer b", "force a", "force b", "batch", "fast", "", "# y", "#")
	if wild && dice.Intn(25) == 0 {
		line = anyOf(dice, "ignore", "keep [", "backup a//b", "drop \xff", "merge Lines a", "merge lines", "merge abcdefghijklmnopq a", "prefer", "prefer c", "force ab", "force a b", "batch 1", "fast a", "Batch", "x", "\vfast", "fast\u00a0", "ignore\va", "includes x")
	}
	if dice.Intn(2) == 0 {
		line = strings.Replace(line, " ", anyOf(dice, "\t", "  ", "\r", " \t\r "), 1)
	}
	return anyOf(dice, "", "", " ", "\t\r") + line + anyOf(dice, "", "", "\r", " \t")
}
