package prof

import (
	"slices"
	"strings"

	"hawser/api"
	"hawser/glob"
)

// blanks are the bytes that count for nothing at the ends of a line, and that end its word.
const blanks = "\t\r "

// maxProgram is how many bytes the name of a program may have.
const maxProgram = 16

// cutWord answers the first word of a text that begins with no blank, and its argument.
func cutWord(text string) (string, string) {
	at := strings.IndexAny(text, blanks)
	if at < 0 {
		return text, ""
	}
	return text[:at], strings.Trim(text[at:], blanks)
}

// plain answers what a line says that includes nothing, and whether it is as it must be.
func plain(word, argument string) (api.Profile, bool) {
	switch word {
	case "ignore", "keep":
		return api.Profile{Ignore: []api.Rule{{Ignore: word == "ignore", Pattern: argument}}}, isPattern(argument)
	case "backup", "drop":
		return api.Profile{Backup: []api.Rule{{Ignore: word == "backup", Pattern: argument}}}, isPattern(argument)
	case "merge":
		program, pattern := cutWord(argument)
		return api.Profile{Merge: []api.Program{{Name: program, Pattern: pattern}}}, isProgram(program) && isPattern(pattern)
	case "prefer":
		return api.Profile{Prefer: side(argument)}, side(argument) != 0
	case "force":
		return api.Profile{Force: side(argument)}, side(argument) != 0
	case "batch":
		return api.Profile{Batch: true}, argument == ""
	case "fast":
		return api.Profile{Fast: true}, argument == ""
	}
	return api.Profile{}, false
}

// isPattern tells whether the text is a pattern.
func isPattern(text string) bool {
	_, e := glob.Check(text)
	return e == api.OK
}

// isProgram tells whether the text may be a program's name.
func isProgram(text string) bool {
	return text != "" && len(text) <= maxProgram && strings.Trim(text, "abcdefghijklmnopqrstuvwxyz") == ""
}

// side answers the side of that word, and 0 if there is none.
func side(word string) int {
	switch word {
	case "a":
		return api.A
	case "b":
		return api.B
	}
	return 0
}

// sideWord answers the word of a side, and "" of what is none.
func sideWord(side int) string {
	switch side {
	case api.A:
		return "a"
	case api.B:
		return "b"
	}
	return ""
}

// sayable tells whether there are lines that say the profile.
func sayable(p api.Profile) bool {
	if tooMany(counts(p)) || slices.ContainsFunc(p.Ignore, unsayableRule) || slices.ContainsFunc(p.Backup, unsayableRule) {
		return false
	}
	return !slices.ContainsFunc(p.Merge, unsayableProgram) && sayableSide(p.Prefer) && sayableSide(p.Force)
}

func unsayableRule(r api.Rule) bool { return !sayablePattern(r.Pattern) }

func unsayableProgram(m api.Program) bool { return !isProgram(m.Name) || !sayablePattern(m.Pattern) }

// sayablePattern tells whether the text is a pattern that a line keeps whole.
func sayablePattern(text string) bool {
	return isPattern(text) && strings.Trim(text, blanks) == text && !strings.Contains(text, "\n")
}

// sayableSide tells whether it is a side, or none.
func sayableSide(side int) bool { return side == 0 || sideWord(side) != "" }

// counts answers how many rules and programs the profile has, list by list.
func counts(p api.Profile) [3]int {
	return [3]int{len(p.Ignore), len(p.Backup), len(p.Merge)}
}

// tooMany tells whether a list is longer than it may be.
func tooMany(all [3]int) bool {
	return slices.Max(all[:]) > api.MaxRules
}
