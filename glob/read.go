package glob

import (
	"strings"
	"unicode/utf8"

	"hawser/api"
)

// part is what stands between two '/' of a pattern: any number of names, or one name told by elements.
type part struct {
	many     bool
	elements []element
}

// element is any number of runes, or one rune that is in a span (or, with not, in none).
type element struct {
	many  bool
	not   bool
	spans []span
}

// span is all runes from the first to the last.
type span struct {
	first, last rune
}

// readPattern answers the parts of a pattern and -1, and of what is no pattern no parts and the place of its first fault.
func readPattern(pattern string) ([]part, int) {
	if pattern == "" || len(pattern) > api.MaxPath {
		return nil, len(pattern)
	}
	if at := spoiltByte(pattern); at >= 0 {
		return nil, at
	}
	// No '/' is ever taken as it is, so each one ends a part, whatever stands around it.
	var parts []part
	at := 0
	for _, text := range strings.Split(pattern, "/") {
		p, fault := readPart(text)
		if fault >= 0 {
			// The last part, if empty, is faulty by the '/' that ends the pattern.
			return nil, min(at+fault, len(pattern)-1)
		}
		parts = append(parts, p)
		at += len(text) + 1
	}
	return parts, -1
}

// spoiltByte answers the place of the first byte that is part of no rune, and -1 if there is none.
func spoiltByte(s string) int {
	for at, r := range s {
		// The rune that stands for a spoilt byte may itself be written, but with more bytes than one.
		if r == utf8.RuneError && !strings.HasPrefix(s[at:], string(utf8.RuneError)) {
			return at
		}
	}
	return -1
}

// readPart answers a part and -1, or the place of its first fault.
func readPart(text string) (part, int) {
	if text == "" {
		return part{}, 0
	}
	if text == "**" {
		return part{many: true}, -1
	}
	var p part
	for at := 0; at < len(text); {
		e, size := readElement(text[at:])
		if size == 0 {
			return part{}, at
		}
		p.elements = append(p.elements, e)
		at += size
	}
	return p, -1
}

// readElement answers the element that the text begins with, and how many bytes it has: 0, if it is faulty.
func readElement(text string) (element, int) {
	switch text[0] {
	case '*':
		return element{many: true}, 1
	case '?':
		// Each rune is in none of no spans.
		return element{not: true}, 1
	case '[':
		return readBrackets(text)
	}
	r, size := readRune(text)
	return element{spans: []span{{r, r}}}, size
}

// readBrackets answers the element that the text's brackets tell, and how many bytes they have: 0, if they are faulty.
func readBrackets(text string) (element, int) {
	rest, not := strings.CutPrefix(text[1:], "!")
	e := element{not: not}
	for rest != "" && rest[0] != ']' {
		s, size := readSpan(rest)
		if size == 0 {
			return element{}, 0
		}
		e.spans = append(e.spans, s)
		rest = rest[size:]
	}
	if rest == "" || len(e.spans) == 0 {
		return element{}, 0
	}
	return e, len(text) - len(rest) + len("]")
}

// readSpan answers the span that the text begins with (one rune, or two with '-' between), and how many bytes it has: 0, if it is faulty.
func readSpan(text string) (span, int) {
	first, size := readRune(text)
	rest, row := strings.CutPrefix(text[size:], "-")
	if !row || rest == "" || rest[0] == ']' {
		return span{first, first}, size
	}
	last, more := readRune(rest)
	if more == 0 {
		return span{}, 0
	}
	return span{first, last}, size + len("-") + more
}

// readRune answers the rune that the text begins with, a backslash ahead of it or not, and how many bytes both have: 0, if there is none.
func readRune(text string) (rune, int) {
	rest, escaped := strings.CutPrefix(text, `\`)
	r, size := utf8.DecodeRuneInString(rest)
	if escaped && size > 0 {
		size += len(`\`)
	}
	return r, size
}
