package store_test

import (
	"hawser/api"
	"hawser/disk"
)

// The same answers by other means than the program's: each step asked for by itself, one behind the other.

// asked is a call.
type asked struct {
	call, path, text string
}

// answer is all that a call can answer.
type answer struct {
	text  string
	there bool
	err   api.Errno
}

// slowAsk makes the steps of the call.
func slowAsk(d *disk.Disk, q asked) answer {
	switch q.call {
	case "Save":
		return answer{err: slowSave(d, q.path, q.text)}
	case "Clear":
		return answer{err: slowClear(d, q.path)}
	}
	return slowLoad(d, q.path)
}

func slowSave(d *disk.Disk, path, text string) api.Errno {
	e := d.Write(path+"~", text, 0o600)
	if e == 0 {
		e = d.Sync(path + "~")
	}
	if e == 0 {
		e = d.Replace(path+"~", path)
	}
	if e == 0 {
		e = d.Flush()
	}
	return e
}

func slowLoad(d *disk.Disk, path string) answer {
	n, _, e := d.Get(path)
	if e == 0 && n.Kind == 1 {
		return answer{text: n.Data, there: true}
	}
	if e == 0 {
		e = 73
	}
	if e == 74 {
		e = 0
	}
	return answer{err: e}
}

func slowClear(d *disk.Disk, path string) api.Errno {
	e := d.Remove(path)
	if e == 74 {
		return 0
	}
	if e == 0 {
		e = d.Flush()
	}
	return e
}
