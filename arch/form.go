package arch

import (
	"strings"

	"hawser/api"
	"hawser/code"
)

const (
	version = "hawser 1" // ahead of all, so that a later form can be told from this one
	leanest = 8          // bytes that a node has at least: one for each part's number, and one of its path
)

// writer embeds the payload that is being written.
type writer struct {
	strings.Builder
}

// texts writes texts one behind the other.
func (w *writer) texts(all ...string) {
	for _, s := range all {
		w.WriteString(code.Text(s))
	}
}

// numbers writes numbers one behind the other.
func (w *writer) numbers(all ...int) {
	for _, n := range all {
		w.WriteString(code.Num(n))
	}
}

// archive writes an archive that is right: one whose numbers can be written, and that has a stamp for each node.
func (w *writer) archive(a api.Archive) {
	w.texts(version, a.Pair)
	w.numbers(a.Serial, len(a.Tree))
	for i, n := range a.Tree {
		w.texts(n.Path)
		w.numbers(n.Kind, n.Mode)
		w.texts(n.Data)
		s := a.Stamps[i]
		w.numbers(s.Ino, s.Size, s.Time)
	}
}

// read answers what a payload tells, which needn't be right, and whether all of it is of the form.
func read(payload string) (api.Archive, bool) {
	r := code.New(payload)
	if r.Text(len(version)) != version {
		return api.Archive{}, false
	}
	// The calls come as they are written here, one behind the other.
	a := api.Archive{Pair: r.Text(api.MaxName), Serial: r.Num()}
	for range r.Count(api.MaxNodes, leanest) {
		a.Tree = append(a.Tree, api.Node{Path: r.Text(api.MaxPath), Kind: r.Num(), Mode: r.Num(), Data: r.Text(fingerprint)})
		a.Stamps = append(a.Stamps, api.Stamp{Ino: r.Num(), Size: r.Num(), Time: r.Num()})
	}
	return a, r.End() == api.OK
}
