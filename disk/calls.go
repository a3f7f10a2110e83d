package disk

import (
	"slices"

	"hawser/api"
	"hawser/name"
	"hawser/tree"
)

// Write lays a file, or gives the one that is there other data.
func (d *Disk) Write(path, data string, mode int) api.Errno {
	e := d.step("Write", path, "")
	if e != api.OK {
		return e
	}
	n := api.Node{Path: path, Kind: api.File, Data: data, Mode: mode}
	there := d.kind(path)
	e = first(
		when(!name.Path(path), api.ErrPath),
		when(!canStand(n), api.ErrArg),
		when(!d.hasDirAbove(path), api.ErrParent),
		when(there == api.Dir || there == api.Link, api.ErrKind),
		when(!d.hasRoom(path), api.ErrFull),
	)
	if e != api.OK {
		return e
	}
	if there == api.None {
		d.change(d.fresh(n))
	}
	d.at(path).write(data, mode, d.clock)
	return api.OK
}

// Mkdir makes a directory.
func (d *Disk) Mkdir(path string) api.Errno {
	e := d.step("Mkdir", path, "")
	if e != api.OK {
		return e
	}
	return d.lay(api.Node{Path: path, Kind: api.Dir})
}

// Link makes a link that leads to a text.
func (d *Disk) Link(path, to string) api.Errno {
	e := d.step("Link", path, to)
	if e != api.OK {
		return e
	}
	return d.lay(api.Node{Path: path, Kind: api.Link, Data: to})
}

// lay gives a node a name that nothing has yet.
func (d *Disk) lay(n api.Node) api.Errno {
	e := first(
		when(!name.Path(n.Path), api.ErrPath),
		when(!canStand(n), api.ErrArg),
		when(!d.hasDirAbove(n.Path), api.ErrParent),
		when(d.kind(n.Path) != api.None, api.ErrThere),
		when(!d.hasRoom(n.Path), api.ErrFull),
	)
	if e == api.OK {
		d.change(d.fresh(n))
	}
	return e
}

// Remove takes a name away.
func (d *Disk) Remove(path string) api.Errno {
	e := d.step("Remove", path, "")
	if e != api.OK {
		return e
	}
	e = first(
		when(!name.Path(path), api.ErrPath),
		when(d.kind(path) == api.None, api.ErrGone),
		when(len(d.within(path)) > 1, api.ErrThere),
	)
	if e == api.OK {
		d.change(entry{path: path})
	}
	return e
}

// Move brings all that is within a path to another one.
func (d *Disk) Move(path, to string) api.Errno {
	e := d.step("Move", path, to)
	if e != api.OK {
		return e
	}
	e = first(
		when(!name.Path(path) || !name.Path(to), api.ErrPath),
		when(name.Within(to, path), api.ErrArg),
		when(d.kind(path) == api.None, api.ErrGone),
		when(d.kind(to) != api.None, api.ErrThere),
		when(!d.hasDirAbove(to), api.ErrParent),
	)
	if e != api.OK {
		return e
	}
	change := d.without(path)
	for _, m := range d.within(path) {
		change = append(change, entry{to + m.path[len(path):], m.inode})
	}
	if slices.ContainsFunc(change, hasNoPath) {
		return api.ErrPath
	}
	d.change(change...)
	return api.OK
}

// Replace gives what is at a path another one's place.
func (d *Disk) Replace(path, to string) api.Errno {
	e := d.step("Replace", path, to)
	if e != api.OK {
		return e
	}
	e = first(
		when(!name.Path(path) || !name.Path(to), api.ErrPath),
		when(to == path, api.ErrArg),
		when(d.kind(path) == api.None, api.ErrGone),
		when(d.kind(path) == api.Dir || d.kind(to) == api.Dir, api.ErrKind),
		when(!d.hasDirAbove(to), api.ErrParent),
	)
	if e == api.OK {
		d.change(entry{path: path}, entry{to, d.at(path)})
	}
	return e
}

// Sync makes the data at a path safe.
func (d *Disk) Sync(path string) api.Errno {
	e := d.step("Sync", path, "")
	if e != api.OK {
		return e
	}
	e = first(
		when(!name.Path(path), api.ErrPath),
		when(d.kind(path) == api.None, api.ErrGone),
	)
	if e == api.OK {
		d.at(path).dirty = false
	}
	return e
}

// Flush makes the names safe.
func (d *Disk) Flush() api.Errno {
	e := d.step("Flush", "", "")
	if e == api.OK {
		d.settle()
	}
	return e
}

// Get answers the node at a path, or at the root, and its stamp.
func (d *Disk) Get(path string) (api.Node, api.Stamp, api.Errno) {
	e := d.step("Get", path, "")
	if e == api.OK {
		e = d.missing(path)
	}
	if e != api.OK {
		return api.Node{}, api.Stamp{}, e
	}
	there := d.at(path)
	return there.node(path), there.stamp(), api.OK
}

// Names answers the last names of what stands right in a directory, or in the root.
func (d *Disk) Names(dir string) ([]string, api.Errno) {
	e := d.step("Names", dir, "")
	if e == api.OK {
		e = first(d.missing(dir), when(d.kind(dir) != api.Dir, api.ErrKind))
	}
	if e != api.OK {
		return nil, e
	}
	return d.in(dir), api.OK
}

// missing answers why there is nothing at what should be a path or the root.
func (d *Disk) missing(path string) api.Errno {
	return first(
		when(path != "" && !name.Path(path), api.ErrPath),
		when(d.kind(path) == api.None, api.ErrGone),
	)
}

// hasDirAbove tells whether the path above is the root, or a directory's.
func (d *Disk) hasDirAbove(path string) bool {
	return d.kind(name.Parent(path)) == api.Dir
}

// hasRoom tells whether, at this step, something can be written at the path.
func (d *Disk) hasRoom(path string) bool {
	full := d.kind(path) == api.None && len(d.names) >= api.MaxNodes
	return d.fate().What != api.Full && !full
}

// canStand tells whether a node of this kind may have these data and this mode, whatever its path is.
func canStand(n api.Node) bool {
	n.Path = ""
	return tree.Right([]api.Node{n})
}

// hasNoPath is asked of a path made of two, which can be too long or too deep.
func hasNoPath(e entry) bool { return !name.Path(e.path) }

// first answers the first of the errors, OK where there is none.
func first(several ...api.Errno) api.Errno {
	for _, e := range several {
		if e != api.OK {
			return e
		}
	}
	return api.OK
}

// when answers the error, where it applies.
func when(applies bool, e api.Errno) api.Errno {
	if applies {
		return e
	}
	return api.OK
}
