package merge_test

import (
	"bytes"
	"slices"
	"strings"
)

// The same answers by other means than the program's: each number is tried from the greatest on, each line is held against each other one, and texts are put together line by line.

// asked is what Run is handed.
type asked struct{ program, o, a, b string }

// answered is what Run answers.
type answered struct {
	text string
	err  int
}

// slowLines is what Lines is to answer.
func slowLines(s string) []string {
	var lines []string
	line := []byte{}
	for i := range len(s) {
		line = append(line, s[i])
		if s[i] == 10 || i == len(s)-1 {
			lines = append(lines, string(line))
			line = nil
		}
	}
	return lines
}

// slowRun is what Run is to answer.
func slowRun(x asked) answered {
	text, can := slowProgram(x)
	if !can {
		return answered{"", 170}
	}
	if len(text) > 65536 {
		return answered{"", 32}
	}
	return answered{text, 0}
}

// slowProgram is what the program makes, and whether it can.
func slowProgram(x asked) (string, bool) {
	switch x.program {
	case "a":
		return x.a, true
	case "b":
		return x.b, true
	case "union":
		return slowUnion(x.a, x.b), true
	case "lines":
		return slowByLines(x.o, x.a, x.b)
	case "longer":
		if len(x.a) > len(x.b) || len(x.a) == len(x.b) && bytes.Compare([]byte(x.a), []byte(x.b)) < 0 {
			return x.a, true
		}
		return x.b, true
	}
	return "", false
}

// slowUnion lists all lines first, and ends those that aren't the last one behind that.
func slowUnion(a, b string) string {
	lines := slowLines(a)
	for _, line := range slowLines(b) {
		if !slices.Contains(slowLines(a), line) {
			lines = append(lines, line)
		}
	}
	text := ""
	for i, line := range lines {
		if i < len(lines)-1 && line[len(line)-1] != 10 {
			line += "\n"
		}
		text += line
	}
	return text
}

// slowChange is what has changed: the lines from from up to to have become these.
type slowChange struct {
	from, to int
	lines    []string
}

// slowChanged tries with how many lines both begin alike, and then with how many of what is left both end alike.
func slowChanged(o, a []string) slowChange {
	p := min(len(o), len(a))
	for !slices.Equal(o[:p], a[:p]) {
		p--
	}
	s := min(len(o), len(a)) - p
	for !slices.Equal(o[len(o)-s:], a[len(a)-s:]) {
		s--
	}
	return slowChange{p, len(o) - s, a[p : len(a)-s]}
}

// slowByLines goes along o line by line, and puts the new lines where a span begins.
func slowByLines(o, a, b string) (string, bool) {
	if a == b || b == o {
		return a, true
	}
	if a == o {
		return b, true
	}
	of := slowLines(o)
	c, d := slowChanged(of, slowLines(a)), slowChanged(of, slowLines(b))
	if !slowApart(c, d) {
		return "", false
	}
	text := ""
	for i := range len(of) + 1 {
		for _, x := range []slowChange{c, d} {
			if i == x.from {
				text += strings.Join(x.lines, "")
			}
		}
		if i < len(of) && !slowIn(c, i) && !slowIn(d, i) {
			text += of[i]
		}
	}
	return text, true
}

// slowIn tells whether a line is in the span.
func slowIn(c slowChange, line int) bool { return c.from <= line && line < c.to }

// slowApart tells whether a line stands behind the one span and ahead of the other.
func slowApart(c, d slowChange) bool {
	for line := range max(c.from, d.from) {
		if c.to <= line && line < d.from || d.to <= line && line < c.from {
			return true
		}
	}
	return false
}
