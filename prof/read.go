package prof

import (
	"slices"
	"strconv"
	"strings"

	"hawser/api"
)

// names is a list of texts' names.
type names []string

func (n names) has(name string) bool { return slices.Contains(n, name) }

// pile is the names of the texts that are being read, each included by the one below it.
type pile struct {
	names
}

func (p *pile) push(name string) { p.names = append(p.names, name) }

func (p *pile) pop() { p.names = p.names[:len(p.names)-1] }

// high answers how many texts are within one another.
func (p *pile) high() int { return len(p.names) }

// place is a line of a text; line 0 is the text itself.
type place struct {
	name string
	line int
}

// told answers the place as a caller is told of it.
func (p place) told() api.Text { return api.Text{Name: p.name, Text: strconv.Itoa(p.line)} }

// fault is an error and its place; the zero fault is none.
type fault struct {
	place
	why api.Errno
}

// saying is what a line or a text says.
type saying struct {
	api.Profile
	nest int // how many texts are within one another there
}

// join answers what is said by all of these, one behind the other, in memory of its own.
func join(said ...saying) saying {
	var all saying
	for _, s := range said {
		all.Ignore = append(all.Ignore, s.Ignore...)
		all.Backup = append(all.Backup, s.Backup...)
		all.Merge = append(all.Merge, s.Merge...)
		if s.Prefer != 0 {
			all.Prefer = s.Prefer
		}
		if s.Force != 0 {
			all.Force = s.Force
		}
		all.Batch = all.Batch || s.Batch
		all.Fast = all.Fast || s.Fast
		all.nest = max(all.nest, s.nest)
	}
	return all
}

// reader reads texts. A text that includes another many times, which does so too, would be read more often than can be waited for: so each one is read whole just once.
type reader struct {
	pile
	texts  []api.Text
	first  map[string]int    // the place of the first text of a name
	known  map[string]saying // what the texts say that were read whole
	counts [3]int            // of the rules and programs that were said so far, list by list
}

func newReader(texts []api.Text) *reader {
	r := &reader{texts: texts, first: map[string]int{}, known: map[string]saying{}}
	for i, t := range slices.Backward(texts) {
		r.first[t.Name] = i
	}
	return r
}

// text answers what the text of that name says, which is asked for at a place.
func (r *reader) text(name string, from place) (saying, fault) {
	known, found := r.known[name]
	// A text that was read whole includes none that is being read (it would have come upon itself). So it has a fault only if it stands too deep here, or says too many rules; it is read again then, for the place.
	if found && r.high()+known.nest <= api.MaxNest && r.count(known.Profile) {
		return known, fault{}
	}
	at, there := r.first[name]
	switch {
	case !there:
		return saying{}, fault{from, api.ErrInclude}
	case r.has(name):
		return saying{}, fault{from, api.ErrCycle}
	case r.high() == api.MaxNest:
		return saying{}, fault{from, api.ErrProfile}
	case len(r.texts[at].Text) > api.MaxText:
		return saying{}, fault{place{name, 0}, api.ErrText}
	}
	return r.lines(name, r.texts[at].Text)
}

// lines answers what the lines of a text of that name say.
func (r *reader) lines(name, text string) (saying, fault) {
	r.push(name)
	defer r.pop()
	var said []saying
	for i, line := range strings.Split(text, "\n") {
		line = strings.Trim(line, blanks)
		if line == "" || line[0] == '#' {
			continue
		}
		s, f := r.line(line, place{name, i + 1})
		if f.why != api.OK {
			return saying{}, f
		}
		said = append(said, s)
	}
	whole := join(said...)
	whole.nest++
	r.known[name] = whole
	return whole, fault{}
}

// line answers what a line says that says something.
func (r *reader) line(line string, at place) (saying, fault) {
	word, argument := cutWord(line)
	if word == "include" {
		return r.text(argument, at)
	}
	p, right := plain(word, argument)
	if !right || !r.count(p) {
		return saying{}, fault{at, api.ErrProfile}
	}
	return saying{Profile: p}, fault{}
}

// count counts the rules and programs that are said, unless they are too many.
func (r *reader) count(p api.Profile) bool {
	all := r.counts
	for i, n := range counts(p) {
		all[i] += n
	}
	if tooMany(all) {
		return false
	}
	r.counts = all
	return true
}
