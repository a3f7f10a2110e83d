package merge

import "strings"

// program makes one text of a and b, which have both come of o, and tells whether it can.
type program func(o, a, b string) (string, bool)

// find answers the program of this name, or nil.
func find(name string) program {
	switch name {
	case "a":
		return func(_, a, _ string) (string, bool) { return a, true }
	case "b":
		return func(_, _, b string) (string, bool) { return b, true }
	case "union":
		return union
	case "lines":
		return byLines
	case "longer":
		return longer
	}
	return nil
}

// union makes a, and behind it what lines b has besides.
func union(_, a, b string) (string, bool) {
	more := besides(a, b)
	if more == "" {
		return a, true
	}
	return ended(a) + more, true
}

// besides answers those lines of b that no line of a is.
func besides(a, b string) string {
	there := map[string]int{}
	for line := range strings.Lines(a) {
		there[line]++
	}
	var more strings.Builder
	for line := range strings.Lines(b) {
		if there[line] == 0 {
			more.WriteString(line)
		}
	}
	return more.String()
}

// ended is s with its last line ended, so that another one may stand behind it.
func ended(s string) string {
	if s == "" || strings.HasSuffix(s, end) {
		return s
	}
	return s + end
}

// byLines makes o with what has changed to a and what has changed to b, where these don't touch.
func byLines(o, a, b string) (string, bool) {
	switch {
	case a == b, b == o:
		return a, true
	case a == o:
		return b, true
	}
	of := cut(o)
	return both(of, changed(of, cut(a)), changed(of, cut(b)))
}

// longer makes that of a and b which has more bytes; of as many, the one that is less.
func longer(_, a, b string) (string, bool) {
	switch {
	case len(a) > len(b):
		return a, true
	case len(b) > len(a):
		return b, true
	}
	return min(a, b), true
}
