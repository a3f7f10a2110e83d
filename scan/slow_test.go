package scan_test

import (
	"crypto/sha256"
	"encoding/hex"
	"slices"
	"strings"

	"hawser/api"
	"hawser/disk"
	"hawser/glob"
	"hawser/name"
)

// The same answers by other means than the program's: a path's last words by single patterns, a walk by a pile of what is still to be asked, and of a quiet disk all by its tree.

// answer is all that Scan, Prints and Value can answer.
type answer struct {
	nodes   []api.Node
	stamps  []api.Stamp
	blocked []string
	inside  bool // of a Value: a directory is blocked in it
	err     api.Errno
}

// same tells whether two answers are the same; an empty list is as none.
func (a answer) same(b answer) bool {
	return slices.Equal(a.nodes, b.nodes) && slices.Equal(a.stamps, b.stamps) && slices.Equal(a.blocked, b.blocked) && a.inside == b.inside && a.err == b.err
}

// slowSeen is Seen.
func slowSeen(rules []api.Rule, path string) bool {
	if !name.Path(path) || path == ".hawser" || strings.HasPrefix(path, ".hawser/") {
		return false
	}
	for path != "" {
		word := api.Rule{}
		for _, r := range rules {
			if glob.Match(r.Pattern, path) {
				word = r
			}
		}
		if word.Ignore {
			return false
		}
		path = path[:max(0, strings.LastIndex(path, "/"))]
	}
	return true
}

// slowAsk makes the steps that a Scan (of "") or a Value asks for, those of a pile, whose last entry is asked first.
func slowAsk(d *disk.Disk, rules []api.Rule, path string) answer {
	pile := []api.Did{{Call: "Get", Path: path}}
	if path == "" {
		pile[0].Call = "Names"
	} else if !slowSeen(rules, path) {
		return answer{err: 11}
	}
	var out answer
	for len(pile) > 0 {
		next := pile[len(pile)-1]
		pile = pile[:len(pile)-1]
		var e api.Errno
		var more []api.Did
		if next.Call == "Get" {
			more, e = slowGet(d, next.Path, &out)
		} else {
			more, e = slowNames(d, rules, next.Path, &out)
		}
		if e == 74 && next.Call == "Get" && next.Path == path {
			return answer{}
		}
		if e != 0 {
			return answer{err: e}
		}
		slices.Reverse(more)
		pile = append(pile, more...)
	}
	return out
}

// slowGet is one Get, and answers what is to be asked next.
func slowGet(d *disk.Disk, path string, out *answer) ([]api.Did, api.Errno) {
	n, s, e := d.Get(path)
	if e != 0 {
		return nil, e
	}
	out.nodes, out.stamps = append(out.nodes, n), append(out.stamps, s)
	if n.Kind != 2 {
		return nil, 0
	}
	return []api.Did{{Call: "Names", Path: path}}, 0
}

// slowNames is one Names, and answers what is to be asked next.
func slowNames(d *disk.Disk, rules []api.Rule, dir string, out *answer) ([]api.Did, api.Errno) {
	names, e := d.Names(dir)
	var next []api.Did
	hidden := map[string]bool{}
	for _, n := range names {
		p := strings.TrimPrefix(dir+"/"+n, "/")
		if slowSeen(rules, p) {
			next = append(next, api.Did{Call: "Get", Path: p})
		} else {
			hidden[p] = true
		}
	}
	delete(hidden, ".hawser")
	if len(hidden) > 0 {
		out.blocked = append(out.blocked, dir)
	}
	return next, e
}

// slowScan is Scan.
func slowScan(d *disk.Disk, rules []api.Rule) answer { return slowAsk(d, rules, "") }

// slowValue is Value.
func slowValue(d *disk.Disk, rules []api.Rule, path string) answer {
	if path == "" {
		return answer{err: 11}
	}
	out := slowAsk(d, rules, path)
	for i, n := range out.nodes {
		out.nodes[i].Path = strings.TrimPrefix(strings.TrimPrefix(n.Path, path), "/")
	}
	out.blocked, out.inside = nil, len(out.blocked) > 0
	return out
}

// slowPrint is a fingerprint's digits.
func slowPrint(data string) string {
	sum := sha256.Sum256([]byte(data))
	return hex.EncodeToString(sum[:])
}

// slowBare is the nodes with fingerprints in the place of data.
func slowBare(t []api.Node) []api.Node {
	var bare []api.Node
	for _, n := range t {
		if n.Kind != 2 {
			n.Data = slowPrint(n.Data)
		}
		bare = append(bare, n)
	}
	return bare
}

// slowKnown is Prints, fast, with an archive that is right.
func slowKnown(d *disk.Disk, rules []api.Rule, a api.Archive) answer {
	out := slowScan(d, rules)
	bare := slowBare(out.nodes)
	for i, n := range bare {
		for j, k := range a.Tree {
			if n.Kind != 2 && k.Path == n.Path && k.Kind == n.Kind && k.Mode == n.Mode && a.Stamps[j] == out.stamps[i] {
				bare[i].Data = k.Data
			}
		}
	}
	out.nodes = bare
	return out
}

// slowQuiet is what a Scan of a quiet disk with this tree answers but for the stamps, and the steps it asks for.
func slowQuiet(t []api.Node, rules []api.Rule) (answer, []api.Did) {
	var out answer
	steps := []api.Did{{Call: "Names"}}
	dirs := []string{""}
	for _, n := range t {
		if !slowSeen(rules, n.Path) {
			continue
		}
		out.nodes = append(out.nodes, n)
		steps = append(steps, api.Did{Call: "Get", Path: n.Path})
		if n.Kind == 2 {
			steps = append(steps, api.Did{Call: "Names", Path: n.Path})
			dirs = append(dirs, n.Path)
		}
	}
	for _, dir := range dirs {
		right := func(n api.Node) bool { return name.Parent(n.Path) == dir && !slowSeen(rules, n.Path) }
		if slices.ContainsFunc(t, func(n api.Node) bool { return right(n) && n.Path != ".hawser" }) {
			out.blocked = append(out.blocked, dir)
		}
	}
	return out, steps
}
