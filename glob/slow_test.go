package glob_test

import (
	"regexp"
	"slices"
	"strings"
	"unicode/utf8"
)

// What patterns are and match, told by regular expressions: slowly, and by other means than the program's.

// inBrackets is a rune between brackets, with a backslash or without.
const inBrackets = `(?:\\[^/]|[^\]\\/])`

// oneElement is an element of a part.
const oneElement = `(?:\*|\?|\\[^/]|[^*?\[\\/]|\[(?:!` + inBrackets + `+|(?:\\[^/]|[^\]\\/!])` + inBrackets + `*)\])`

var (
	good     = longest(`^(?s:(?:` + oneElement + `+/)*` + oneElement + `*)`)
	elements = longest(`(?s:` + oneElement + `)`)
	rows     = regexp.MustCompile(`(?s)(` + inBrackets + `)-(` + inBrackets + `)|(` + inBrackets + `)`)
)

func longest(text string) *regexp.Regexp {
	r := regexp.MustCompile(text)
	r.Longest()
	return r
}

// slowCheck is the place of the first fault, or -1.
func slowCheck(s string) int {
	if len(s) == 0 || len(s) > 400 {
		return len(s)
	}
	if !utf8.ValidString(s) {
		return firstSpoilt(s)
	}
	n := len(good.FindString(s))
	switch {
	case n < len(s):
		return n
	case s[n-1] == '/':
		return n - 1
	}
	return -1
}

// firstSpoilt is the length of the longest beginning that is of whole runes.
func firstSpoilt(s string) int {
	most := 0
	for n := range len(s) + 1 {
		if utf8.ValidString(s[:n]) {
			most = n
		}
	}
	return most
}

// slowPattern tells of paths whether the pattern matches them.
func slowPattern(s string) func(path string) bool {
	text := "^"
	for _, part := range strings.Split(s, "/") {
		if part == "**" {
			text += `(?:/[^/]*)*`
			continue
		}
		text += "/"
		for _, e := range elements.FindAllString(part, -1) {
			text += slowElement(e)
		}
	}
	r := regexp.MustCompile(text + "$")
	last := !strings.Contains(s, "/") && s != "**"
	return func(path string) bool {
		if last {
			path = path[strings.LastIndex(path, "/")+1:]
		}
		return r.MatchString("/" + path)
	}
}

// slowElement tells an element as a regular expression.
func slowElement(e string) string {
	switch {
	case e == "*":
		return `[^/]*`
	case e == "?":
		return `[^/]`
	case e[0] == '[':
		return slowBrackets(e[1 : len(e)-1])
	}
	return regexp.QuoteMeta(strings.TrimPrefix(e, `\`))
}

// slowBrackets tries each rune that the tests' paths have.
func slowBrackets(inner string) string {
	not := inner[0] == '!'
	if not {
		inner = inner[1:]
	}
	var runes []string
	for _, r := range "abcdexyzABéèëüý-!*[]\\?5\uFFFD" {
		in := slices.ContainsFunc(rows.FindAllStringSubmatch(inner, -1), func(row []string) bool {
			if row[3] != "" {
				return r == bare(row[3])
			}
			return bare(row[1]) <= r && r <= bare(row[2])
		})
		if in != not {
			runes = append(runes, regexp.QuoteMeta(string(r)))
		}
	}
	if runes == nil {
		return `[^\x{0}-\x{10FFFF}]`
	}
	return "(?:" + strings.Join(runes, "|") + ")"
}

// bare is the rune, without its backslash.
func bare(s string) rune {
	if len(s) > 1 {
		s = strings.TrimPrefix(s, `\`)
	}
	return []rune(s)[0]
}
