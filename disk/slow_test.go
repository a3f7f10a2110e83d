package disk_test

import (
	"bytes"
	"maps"
	"math/rand"
	"slices"
	"sort"
	"strings"
	"unicode/utf8"

	"hawser/api"
	"hawser/disk"
)

// The same answers by other means than the program's: names and inodes in maps, and behind each change of names a copy of them all.

// asked is a call that is a step.
type asked struct {
	call, path, to, data string
	mode                 int
}

// answer is all that a call can answer.
type answer struct {
	node  api.Node
	stamp api.Stamp
	names string
	err   api.Errno
}

// ask makes the call.
func ask(d *disk.Disk, q asked) answer {
	switch q.call {
	case "Write":
		return answer{err: d.Write(q.path, q.data, q.mode)}
	case "Mkdir":
		return answer{err: d.Mkdir(q.path)}
	case "Link":
		return answer{err: d.Link(q.path, q.to)}
	case "Remove":
		return answer{err: d.Remove(q.path)}
	case "Move":
		return answer{err: d.Move(q.path, q.to)}
	case "Replace":
		return answer{err: d.Replace(q.path, q.to)}
	case "Sync":
		return answer{err: d.Sync(q.path)}
	case "Flush":
		return answer{err: d.Flush()}
	case "Get":
		n, s, e := d.Get(q.path)
		return answer{node: n, stamp: s, err: e}
	}
	l, e := d.Names(q.path)
	return answer{names: strings.Join(l, " "), err: e}
}

type slowInode struct {
	node  api.Node // without a path
	time  int
	dirty bool
}

type slowDisk struct {
	names, safe    map[string]int
	changes        []map[string]int
	inodes         map[int]slowInode
	on             bool
	clock, highest int
	fates          []api.Fate
	edits          []api.Edit
	trace          []api.Did
}

// newSlow is a slow disk with a tree that is right.
func newSlow(t []api.Node) *slowDisk {
	m := &slowDisk{names: map[string]int{}, inodes: map[int]slowInode{}, on: true}
	for _, n := range t {
		m.names[n.Path] = m.number(n, 0, false)
	}
	m.safe = maps.Clone(m.names)
	return m
}

func (m *slowDisk) number(n api.Node, time int, dirty bool) int {
	m.highest++
	n.Path = ""
	m.inodes[m.highest] = slowInode{n, time, dirty}
	return m.highest
}

func (m *slowDisk) boot(fates []api.Fate, edits []api.Edit) {
	m.on, m.trace, m.fates, m.edits = true, nil, fates, edits
}

// paths is the paths in their order.
func (m *slowDisk) paths() []string {
	all := slices.Collect(maps.Keys(m.names))
	sort.Slice(all, func(i, j int) bool { return slowAhead(all[i], all[j]) })
	return all
}

func (m *slowDisk) tree() []api.Node {
	var t []api.Node
	for _, p := range m.paths() {
		t = append(t, m.node(p))
	}
	return t
}

// node is what is at a path or the root; its kind is 0, if there is nothing.
func (m *slowDisk) node(path string) api.Node {
	if path == "" {
		return api.Node{Kind: 2}
	}
	n := m.inodes[m.names[path]].node
	if n.Kind > 0 {
		n.Path = path
	}
	return n
}

func (m *slowDisk) kind(path string) int { return m.node(path).Kind }

// changed says that the names have changed once.
func (m *slowDisk) changed() { m.changes = append(m.changes, maps.Clone(m.names)) }

// edit is what a user does.
func (m *slowDisk) edit(e api.Edit) {
	u, ok := m.edited(e)
	if !ok {
		return
	}
	maps.DeleteFunc(m.names, func(p string, _ int) bool { return slowWithin(p, e.Path) })
	for _, n := range u {
		m.names[n.Path] = m.number(n, m.clock+1, false)
	}
	m.changed()
}

// edited is what will be within the path of an edit, and whether it can be.
func (m *slowDisk) edited(e api.Edit) ([]api.Node, bool) {
	if !slowValue(e.Value) || !slowPath(e.Path) || len(e.Value) > 0 && m.kind(slowAbove(e.Path)) != 2 {
		return nil, false
	}
	stay := 0
	for p := range m.names {
		if !slowWithin(p, e.Path) {
			stay++
		}
	}
	var u []api.Node
	for _, n := range e.Value {
		n.Path = strings.TrimSuffix(e.Path+"/"+n.Path, "/")
		if !slowPath(n.Path) {
			return nil, false
		}
		u = append(u, n)
	}
	return u, stay+len(u) <= 1000
}

func (m *slowDisk) crash(f api.Fate) {
	keep := min(f.Keep, len(m.changes))
	m.names = m.safe
	if keep > 0 {
		m.names = m.changes[keep-1]
	}
	for ino, i := range m.inodes {
		if i.dirty && len(i.node.Data) > f.Torn {
			i.node.Data = i.node.Data[:max(f.Torn, 0)]
		}
		i.dirty = false
		m.inodes[ino] = i
	}
	m.names = maps.Clone(m.names)
	m.safe, m.changes, m.on = maps.Clone(m.names), nil, false
}

// ask makes the call.
func (m *slowDisk) ask(q asked) answer {
	if !m.on {
		return answer{err: 75}
	}
	for _, e := range m.edits {
		if e.At == len(m.trace) {
			m.edit(e)
		}
	}
	m.clock++
	did := api.Did{Call: q.call, Path: q.path}
	if q.call == "Link" || q.call == "Move" || q.call == "Replace" {
		did.To = q.to
	}
	if q.call == "Flush" {
		did.Path = ""
	}
	m.trace = append(m.trace, did)
	full := false
	at := slices.IndexFunc(m.fates, func(f api.Fate) bool { return f.At == len(m.trace)-1 })
	if at >= 0 {
		switch m.fates[at].What {
		case 1:
			return answer{err: 70}
		case 2:
			full = true
		case 3:
			m.crash(m.fates[at])
			return answer{err: 75}
		}
	}
	return m.work(q, full)
}

// work is the call's own work.
func (m *slowDisk) work(q asked, full bool) answer {
	faults := m.faults(q)
	grows := q.call == "Mkdir" || q.call == "Link" || q.call == "Write"
	if grows && (full || m.kind(q.path) == 0 && len(m.names) == 1000) {
		faults = append(faults, 71)
	}
	if len(faults) > 0 {
		return answer{err: faults[0]}
	}
	ino := m.names[q.path]
	there := m.inodes[ino]
	switch q.call {
	case "Write":
		if ino == 0 {
			m.names[q.path] = m.number(api.Node{}, 0, true)
			m.changed()
		}
		m.inodes[m.names[q.path]] = slowInode{api.Node{Kind: 1, Data: q.data, Mode: q.mode}, m.clock, true}
	case "Mkdir":
		m.names[q.path] = m.number(api.Node{Kind: 2}, m.clock, false)
		m.changed()
	case "Link":
		m.names[q.path] = m.number(api.Node{Kind: 3, Data: q.to}, m.clock, false)
		m.changed()
	case "Remove":
		delete(m.names, q.path)
		m.changed()
	case "Move", "Replace":
		m.move(q.path, q.to)
		m.changed()
	case "Sync":
		there.dirty = false
		m.inodes[ino] = there
	case "Flush":
		m.safe, m.changes = maps.Clone(m.names), nil
	case "Get":
		return answer{node: m.node(q.path), stamp: api.Stamp{Ino: ino, Size: len(there.node.Data), Time: there.time}}
	case "Names":
		return answer{names: strings.Join(m.list(q.path), " ")}
	}
	return answer{}
}

// move brings what is within a path to another one.
func (m *slowDisk) move(path, to string) {
	for _, p := range m.paths() {
		if slowWithin(p, path) {
			ino := m.names[p]
			delete(m.names, p)
			m.names[to+strings.TrimPrefix(p, path)] = ino
		}
	}
}

// list is the last names in a directory.
func (m *slowDisk) list(dir string) []string {
	var l []string
	for _, p := range m.paths() {
		if slowAbove(p) == dir {
			names := strings.Split(p, "/")
			l = append(l, names[len(names)-1])
		}
	}
	return l
}

// faults is all errors that apply, in their order, but for ErrFull.
func (m *slowDisk) faults(q asked) []api.Errno {
	var l []api.Errno
	fault := func(applies bool, e api.Errno) {
		if applies {
			l = append(l, e)
		}
	}
	is, isTo := m.kind(q.path), m.kind(q.to)
	two := q.call == "Move" || q.call == "Replace"
	orRoot := q.call == "Get" || q.call == "Names"
	fault(q.call != "Flush" && !slowPath(q.path) && !(orRoot && q.path == "") || two && !slowPath(q.to), 11)
	switch q.call {
	case "Write":
		fault(!slowNode(api.Node{Kind: 1, Data: q.data, Mode: q.mode}), 2)
		fault(m.kind(slowAbove(q.path)) != 2, 62)
		fault(is == 2 || is == 3, 73)
	case "Mkdir", "Link":
		fault(q.call == "Link" && !slowNode(api.Node{Kind: 3, Data: q.to}), 2)
		fault(m.kind(slowAbove(q.path)) != 2, 62)
		fault(is != 0, 72)
	case "Remove":
		fault(is == 0, 74)
		fault(len(m.list(q.path)) > 0, 72)
	case "Move":
		fault(slowWithin(q.to, q.path), 2)
		fault(is == 0, 74)
		fault(isTo != 0, 72)
		fault(m.kind(slowAbove(q.to)) != 2, 62)
		for _, p := range m.paths() {
			fault(slowWithin(p, q.path) && !slowPath(q.to+strings.TrimPrefix(p, q.path)), 11)
		}
	case "Replace":
		fault(q.path == q.to, 2)
		fault(is == 0, 74)
		fault(is == 2 || isTo == 2, 73)
		fault(m.kind(slowAbove(q.to)) != 2, 62)
	case "Sync", "Get", "Names":
		fault(is == 0, 74)
		fault(q.call == "Names" && is != 2, 73)
	}
	return l
}

// slowPath says what a path is.
func slowPath(p string) bool {
	names := strings.Split(p, "/")
	for _, n := range names {
		if n == "" || n == "." || n == ".." || len(n) > 64 || !utf8.ValidString(n) || strings.IndexByte(n, 0) >= 0 {
			return false
		}
	}
	return len(names) <= 16 && len(p) <= 400
}

// slowAhead says whether p stands ahead of q in the order of paths.
func slowAhead(p, q string) bool {
	return slices.Compare(strings.Split(p, "/"), strings.Split(q, "/")) < 0
}

// slowWithin says whether p is q, or stands below it.
func slowWithin(p, q string) bool { return strings.HasPrefix(p+"/", q+"/") }

// slowAbove is the path above.
func slowAbove(p string) string {
	return strings.TrimSuffix(p[:strings.LastIndex("/"+p, "/")], "/")
}

// slowNode says whether a node is right.
func slowNode(n api.Node) bool {
	file := n.Kind == 1 && len(n.Data) < 65537 && n.Mode >= 0 && n.Mode < 512
	dir := n == api.Node{Path: n.Path, Kind: 2}
	link := n.Kind == 3 && len(n.Data) > 0 && len(n.Data) < 401 && bytes.IndexByte([]byte(n.Data), 0) < 0 && n.Mode == 0
	return file || dir || link
}

// slowValue says what a value is.
func slowValue(v []api.Node) bool {
	if len(v) == 0 || len(v) > 1000 {
		return len(v) == 0
	}
	kinds := map[string]int{"": v[0].Kind}
	for i, n := range v {
		if !slowNode(n) || i == 0 && n.Path != "" || i > 0 && !slowPath(n.Path) || i > 0 && kinds[slowAbove(n.Path)] != 2 || i > 1 && !slowAhead(v[i-1].Path, n.Path) {
			return false
		}
		kinds[n.Path] = n.Kind
	}
	return true
}

// anyOf is one of some things.
func anyOf[T any](dice *rand.Rand, things ...T) T { return things[dice.Intn(len(things))] }

// anyPath is one of few paths, some of which are none.
func anyPath(dice *rand.Rand) string {
	path := anyOf(dice, "a", "b", "a", "b", "c", "a.b", "é", "", "..", "/", "a/", long(65))
	if len(path) == 1 && dice.Intn(5) < 3 {
		path += "/" + anyPath(dice)
	}
	return path
}

// anyCall is any call.
func anyCall(dice *rand.Rand) asked {
	q := asked{call: anyOf(dice, "Write", "Write", "Write", "Mkdir", "Mkdir", "Mkdir", "Link", "Remove", "Move", "Move", "Replace", "Replace", "Sync", "Sync", "Flush", "Get", "Get", "Names", "Names")}
	q.path, q.to = anyPath(dice), anyPath(dice)
	q.data = anyOf(dice, "", "x", "xy", "xyz")
	q.mode = anyOf(dice, 0, 420, 420, 511, 512, -1)
	return q
}

// anyFates are a few.
func anyFates(dice *rand.Rand, steps int) []api.Fate {
	var l []api.Fate
	for range dice.Intn(5) {
		l = append(l, api.Fate{At: dice.Intn(steps) - 1, What: dice.Intn(5), Keep: dice.Intn(9) - 1, Torn: dice.Intn(5) - 1})
	}
	return l
}

// anyEdits are a few.
func anyEdits(dice *rand.Rand, steps int) []api.Edit {
	var l []api.Edit
	for range dice.Intn(5) {
		l = append(l, api.Edit{At: dice.Intn(steps) - 1, Path: anyPath(dice), Value: anyValue(dice)})
	}
	return l
}

// anyValue is a value most times.
func anyValue(dice *rand.Rand) []api.Node {
	tree := list(dir(""), file("a", "xyz"), dir("b"), link("b/a", "x"), file("b/c", ""), dir("c"))
	return anyOf(dice, nil, tree, tree[:1], tree[:2], tree[:3], tree[:4], tree[1:], list(file("", "u")), list(link("", "v")), list(file("", ""), file("a", "")), list(api.Node{Kind: 4}))
}
