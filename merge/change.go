package merge

import (
	"slices"
	"strings"
)

// span is some lines of a text: those from from up to, but without, to.
type span struct {
	from, to int
}

// aheadOf tells whether s ends ahead of where t begins, with a line or more between them.
func (s span) aheadOf(t span) bool { return s.to < t.from }

// change is what has changed from a text to another one: the lines of its span have become these.
type change struct {
	span
	lines []string
}

// changed answers what has changed from o to a.
func changed(o, a []string) change {
	p := alikeAtBegin(o, a)
	// What begins alike may end alike too, and must not count twice.
	s := alikeAtEnd(o[p:], a[p:])
	return change{span{p, len(o) - s}, a[p : len(a)-s]}
}

// alikeAtBegin is with how many lines both begin alike.
func alikeAtBegin(x, y []string) int {
	n := 0
	for n < min(len(x), len(y)) && x[n] == y[n] {
		n++
	}
	return n
}

// alikeAtEnd is with how many lines both end alike.
func alikeAtEnd(x, y []string) int {
	n := 0
	for n < min(len(x), len(y)) && x[len(x)-1-n] == y[len(y)-1-n] {
		n++
	}
	return n
}

// both answers the text of o's lines with both changes made, and whether they don't touch.
func both(o []string, c, d change) (string, bool) {
	switch {
	case c.aheadOf(d.span):
		return put(o, c, d), true
	case d.aheadOf(c.span):
		return put(o, d, c), true
	}
	return "", false
}

// put answers the text of o's lines with two changes made, of which the first stands ahead of the second.
func put(o []string, first, second change) string {
	lines := slices.Concat(o[:first.from], first.lines, o[first.to:second.from], second.lines, o[second.to:])
	return strings.Join(lines, "")
}
