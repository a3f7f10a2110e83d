package delta_test

import (
	"bytes"
	"crypto/sha256"
	"slices"

	"hawser/api"
)

// The same answers by other means than the program's: each block of the list is held against the text at each place, with sums made anew, and each byte is told by itself ahead of being put together.

// slowTell is what is told of a block, as the words have it.
func slowTell(block string) api.Block {
	a, b := 0, 0
	for i := range len(block) {
		a += int(block[i])
		b += (len(block) - i) * int(block[i])
	}
	sum := sha256.Sum256([]byte(block))
	return api.Block{Weak: uint32(a%65536 + 65536*(b%65536)), Sum: string(sum[:]), Len: len(block)}
}

// slowCut is a text's blocks.
func slowCut(text string, size int) []string {
	var all []string
	for chunk := range slices.Chunk([]byte(text), size) {
		all = append(all, string(chunk))
	}
	return all
}

// slowSign is what Sign is to answer.
func slowSign(base string, size int) []api.Block {
	var all []api.Block
	for _, block := range slowCut(base, size) {
		all = append(all, slowTell(block))
	}
	return all
}

// slowMake is what Make is to answer.
func slowMake(data string, blocks []api.Block, size int) []api.Op {
	var single []api.Op
	for data != "" {
		piece := data[:min(size, len(data))]
		if n := slices.Index(blocks, slowTell(piece)); n >= 0 {
			single = append(single, api.Op{From: n, Count: 1})
		} else {
			piece = data[:1]
			single = append(single, api.Op{Text: piece})
		}
		data = data[len(piece):]
	}
	return joined(single)
}

// joined puts texts together, and copies of blocks that stand one behind the other.
func joined(single []api.Op) []api.Op {
	var all []api.Op
	for _, op := range single {
		if len(all) == 0 {
			all = append(all, op)
			continue
		}
		last := &all[len(all)-1]
		switch {
		case last.Text != "" && op.Text != "":
			last.Text += op.Text
		case last.Text == "" && op.Text == "" && last.From+last.Count == op.From:
			last.Count++
		default:
			all = append(all, op)
		}
	}
	return all
}

// slowApply is what Apply is to answer.
func slowApply(base string, size int, ops []api.Op) (string, api.Errno) {
	blocks := slowCut(base, size)
	var told bytes.Buffer
	for _, op := range ops {
		switch {
		case op.Count == 0 && op.From == 0 && len(op.Text) > 0:
			told.WriteString(op.Text)
		case op.Count > 0 && op.Text == "" && op.From >= 0 && op.From < len(blocks) && op.Count <= len(blocks) && op.From+op.Count <= len(blocks):
			for _, block := range blocks[op.From : op.From+op.Count] {
				told.WriteString(block)
			}
		default:
			return "", 140
		}
		if told.Len() > 65536 {
			return "", 32
		}
	}
	return told.String(), 0
}

// slowNew is what New is to answer.
func slowNew(ops []api.Op) int {
	all := ""
	for _, op := range ops {
		all += op.Text
	}
	return len(all)
}
