// Package name is layer 1: names and paths, what may stand in a directory, and where.
package name

import (
	"cmp"
	"strings"
	"unicode/utf8"

	"hawser/api"
)

// Name tells whether s is a name.
func Name(s string) bool {
	if s == "" || len(s) > api.MaxName || s == "." || s == ".." {
		return false
	}
	return utf8.ValidString(s) && !strings.ContainsAny(s, "/\x00")
}

// Path tells whether s is a path.
func Path(s string) bool {
	// The lengths come first, so that no long text is taken apart in vain.
	if len(s) > api.MaxPath || strings.Count(s, "/") >= api.MaxDepth {
		return false
	}
	return allNames(strings.Split(s, "/"))
}

func allNames(texts []string) bool {
	for _, s := range texts {
		if !Name(s) {
			return false
		}
	}
	return true
}

// Split answers the names of a path, and none of what is no path.
func Split(p string) []string {
	if !Path(p) {
		return nil
	}
	return strings.Split(p, "/")
}

// Join answers the path that has these names, and whether there is one.
func Join(names ...string) (string, bool) {
	// Each is asked by itself: a text with a '/' is no name, though it could be a piece of a path.
	if len(names) > api.MaxDepth || !allNames(names) {
		return "", false
	}
	p := strings.Join(names, "/")
	if !Path(p) {
		return "", false
	}
	return p, true
}

// Parent answers the path above p, and the root of what has one name or is no path.
func Parent(p string) string {
	if !Path(p) {
		return ""
	}
	return p[:max(0, strings.LastIndexByte(p, '/'))]
}

// Base answers the last name of p, and "" of what is no path.
func Base(p string) string {
	if !Path(p) {
		return ""
	}
	return p[strings.LastIndexByte(p, '/')+1:]
}

// Within tells whether p is the path q, or stands below it; every path stands below the root.
func Within(p, q string) bool {
	if !Path(p) {
		return false
	}
	// What stands ahead of a '/' of a path is a path, so q need not be asked.
	rest, found := strings.CutPrefix(p, q)
	return found && (q == "" || rest == "" || rest[0] == '/')
}

// Order tells whether a stands ahead of b in the order of paths (-1), is b (0), or stands behind it (1).
func Order(a, b string) int {
	for i := range min(len(a), len(b)) {
		if a[i] != b[i] {
			return cmp.Compare(rank(a[i]), rank(b[i]))
		}
	}
	return cmp.Compare(len(a), len(b))
}

// rank puts '/' ahead of all other bytes: it ends a name, and a name stands ahead of those that begin with it.
func rank(c byte) int {
	if c == '/' {
		return 0
	}
	return int(c) + 1
}

// Fold answers s with the bytes A to Z as a to z, and all others as they are.
func Fold(s string) string {
	folded := []byte(s)
	for i, c := range folded {
		if 'A' <= c && c <= 'Z' {
			folded[i] = c - 'A' + 'a'
		}
	}
	return string(folded)
}

// Clash answers the places of two of the paths that are unlike but fold to the same: the least second place, and for it the least first one; -1, -1, if there are none.
func Clash(paths ...string) (int, int) {
	// Till the first clash all that fold to the same are the same, so the first of them stands for all.
	first := map[string]int{}
	for j, p := range paths {
		folded := Fold(p)
		i, found := first[folded]
		if !found {
			first[folded] = j
		} else if paths[i] != p {
			return i, j
		}
	}
	return -1, -1
}
