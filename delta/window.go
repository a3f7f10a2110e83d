package delta

import "hawser/hash"

// window is what one looks at of a text: size bytes or, where fewer are left, all of them. It rolls along the text, and its weak sum with it.
type window struct {
	text     string
	size     int
	from, to int
	weak     uint32
}

// open is the window at the text's beginning.
func open(text string, size int) window {
	w := window{text: text, size: size}
	w.pass()
	return w
}

// shown is what is in the window.
func (w *window) shown() string { return w.text[w.from:w.to] }

// over tells whether nothing of the text is left.
func (w *window) over() bool { return w.from == len(w.text) }

// pass goes on behind what is in the window.
func (w *window) pass() {
	w.from, w.to = w.to, min(w.to+w.size, len(w.text))
	w.weak = hash.Weak(w.shown())
}

// roll goes on by a byte.
func (w *window) roll() {
	wide, out := w.to-w.from, w.text[w.from]
	w.from++
	if w.to < len(w.text) {
		w.weak = hash.Roll(w.weak, wide, out, w.text[w.to])
		w.to++
		return
	}
	w.weak = shorter(hash.Roll(w.weak, wide, out, 0))
}

// shorter is the weak sum of bytes that had the sum weak with a byte 0 behind them: that made each of them count once more in the upper half, so that the lower half, their sum, goes off it.
func shorter(weak uint32) uint32 { return weak - weak<<16 }
