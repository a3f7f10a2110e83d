package delta

import (
	"strings"

	"hawser/api"
	"hawser/hash"
)

// maker tells a text by steps, while its window rolls along it.
type maker struct {
	window
	known known
	ops   []api.Op
	told  int // up to where the steps tell the text
}

// tellAll goes through the whole text.
func (m *maker) tellAll() {
	for !m.over() {
		n := m.known.find(m.shown(), m.weak)
		if n == none {
			m.roll()
			continue
		}
		m.tellNew()
		m.tellCopy(n)
		m.pass()
		m.told = m.from
	}
	m.tellNew()
}

// tellNew tells what was passed and isn't told yet, as a text of its own memory.
func (m *maker) tellNew() {
	if m.told < m.from {
		m.ops = append(m.ops, api.Op{Text: strings.Clone(m.text[m.told:m.from])})
	}
}

// tellCopy tells the block of this number, with the step ahead if that ends just ahead of it.
func (m *maker) tellCopy(n int) {
	if last := len(m.ops) - 1; last >= 0 && m.ops[last].Count > 0 && m.ops[last].From+m.ops[last].Count == n {
		m.ops[last].Count++
		return
	}
	m.ops = append(m.ops, api.Op{From: n, Count: 1})
}

// none is the number of no block.
const none = -1

// known is blocks to be looked for. A fingerprint is dear: it is made where a block has the weak sum, and not twice for the same text behind one another.
type known struct {
	last  map[weakly]answer
	first map[api.Block]int // the number of the first of those that are the same
}

// weakly is by what a block is looked for ahead of its fingerprint. The length stands beside the weak sum, as that is 0 for zeros of any length.
type weakly struct {
	weak uint32
	size int
}

// answer is what was looked for last, and the number of its block, or none.
type answer struct {
	text   string
	number int
}

// know is all of these blocks.
func know(blocks []api.Block) known {
	k := known{map[weakly]answer{}, map[api.Block]int{}}
	for n, b := range blocks {
		if _, twice := k.first[b]; !twice {
			k.first[b] = n
		}
		// No block is looked for by an empty text, so that this answers nothing yet.
		k.last[weakly{b.Weak, b.Len}] = answer{"", none}
	}
	return k
}

// find answers the number of the first block that matches text, which has this weak sum, or none.
func (k known) find(text string, weak uint32) int {
	key := weakly{weak, len(text)}
	last, some := k.last[key]
	if !some {
		return none
	}
	if last.text == text {
		return last.number
	}
	number, matches := k.first[api.Block{Weak: weak, Sum: hash.Sum(text), Len: len(text)}]
	if !matches {
		number = none
	}
	k.last[key] = answer{text, number}
	return number
}
