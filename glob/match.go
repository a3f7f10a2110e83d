package glob

// trial holds a list of parts against a list of names.
type trial struct {
	parts []part
	names []string
	tried map[[2]int]int // how often the parts from the one place on were held against the names from the other on
}

// matches tells whether the parts of a pattern match a path of these names.
func matches(parts []part, names []string) bool {
	if len(parts) == 1 {
		names = names[len(names)-1:]
	}
	t := trial{parts, names, map[[2]int]int{}}
	return t.from(0, 0)
}

// from tells whether the parts from i on match the names from j on.
func (t trial) from(i, j int) bool {
	if i == len(t.parts) {
		return j == len(t.names)
	}
	if !t.parts[i].many {
		return j < len(t.names) && fits(t.parts[i].elements, t.names[j]) && t.from(i+1, j+1)
	}
	// Where a trial succeeds all is told; so what comes up again has failed.
	at := [2]int{i, j}
	if t.tried[at] > 0 {
		return false
	}
	t.tried[at]++
	return t.from(i+1, j) || j < len(t.names) && t.from(i, j+1)
}

// fits tells whether the elements match the whole name.
func fits(elements []element, name string) bool {
	// reached[i]: the first i elements match what was read of the name.
	reached := make([]bool, len(elements)+1)
	reached[0] = true
	passMany(elements, reached)
	for _, r := range name {
		takeRune(elements, reached, r)
		passMany(elements, reached)
	}
	return reached[len(elements)]
}

// takeRune brings what is reached over the next rune of the name.
func takeRune(elements []element, reached []bool, r rune) {
	// From the last place to the first: each looks at the one ahead of it as that was before this rune.
	for i := len(elements); i >= 0; i-- {
		stays := i < len(elements) && elements[i].many && reached[i]
		comes := i > 0 && reached[i-1] && elements[i-1].takes(r)
		reached[i] = stays || comes
	}
}

// passMany reaches what is behind an element that may stand for no rune at all.
func passMany(elements []element, reached []bool) {
	for i, e := range elements {
		if e.many && reached[i] {
			reached[i+1] = true
		}
	}
}

// takes tells whether the element stands for this one rune.
func (e element) takes(r rune) bool {
	for _, s := range e.spans {
		if s.first <= r && r <= s.last {
			return !e.not
		}
	}
	return e.not
}
