package scan

import (
	"hawser/api"
	"hawser/disk"
	"hawser/glob"
	"hawser/name"
)

// ruleList says what is ignored.
type ruleList []api.Rule

// see tells whether something at the path is seen.
func (r ruleList) see(path string) bool {
	return name.Path(path) && !name.Within(path, Own) && !glob.Ignored(r, path)
}

// walk goes down a disk by its rules, and gathers what it sees.
type walk struct {
	ruleList
	disk    *disk.Disk
	nodes   []api.Node
	stamps  []api.Stamp
	blocked []string
}

// down walks the directory, up to the first error.
func (w *walk) down(dir string) api.Errno {
	names, e := w.disk.Names(dir)
	if e != api.OK {
		return e
	}
	for _, p := range w.seenIn(dir, names) {
		kind, e := w.take(p)
		if e == api.OK && kind == api.Dir {
			e = w.down(p)
		}
		if e != api.OK {
			return e
		}
	}
	return api.OK
}

// seenIn answers the paths in the directory that are seen, and notes the directory as blocked, where one isn't.
func (w *walk) seenIn(dir string, names []string) []string {
	var paths []string
	blocked := false
	for _, n := range names {
		p := below(dir, n)
		if w.see(p) {
			paths = append(paths, p)
		} else if p != Own {
			blocked = true
		}
	}
	if blocked {
		w.blocked = append(w.blocked, dir)
	}
	return paths
}

// take gathers what stands at the path, and answers its kind.
func (w *walk) take(path string) (int, api.Errno) {
	n, s, e := w.disk.Get(path)
	if e != api.OK {
		return api.None, e
	}
	w.nodes, w.stamps = append(w.nodes, n), append(w.stamps, s)
	return n.Kind, api.OK
}

// below answers the path of a name in a directory, or in the root.
func below(dir, last string) string {
	if dir == "" {
		return last
	}
	return dir + "/" + last
}
