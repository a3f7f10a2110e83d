package code

import "hawser/api"

const (
	goesOn  = 128 // what a byte of a number has more if another one follows
	longest = 9   // bytes of a number: seven bits each are the 63 of the greatest
)

// hand is the bytes at hand, and the first fault that they have shown.
type hand struct {
	rest  string
	fault api.Errno
}

func (h *hand) left() int { return len(h.rest) }

// take answers the next n bytes, and stands behind them.
func (h *hand) take(n int) string {
	taken := h.rest[:n]
	h.rest = h.rest[n:]
	return taken
}

func (h *hand) fail(e api.Errno) { h.fault = e }

// numbers reads the numbers of what is at hand; it takes nothing, so that a fault that shows behind a number leaves all as it stood.
type numbers struct {
	hand
}

// number answers the number at hand, and how many bytes it has.
func (n *numbers) number() (value, width int, e api.Errno) {
	for width < min(n.left(), longest) {
		b := int(n.rest[width])
		value |= b % goesOn << (7 * width)
		width++
		if b < goesOn {
			return oneWay(value, width, b)
		}
	}
	if width == longest {
		return 0, 0, api.ErrForm
	}
	return 0, 0, api.ErrShort
}

// oneWay refuses a last byte 0 behind others: without it there is the same number.
func oneWay(value, width, last int) (int, int, api.Errno) {
	if last == 0 && width > 1 {
		return 0, 0, api.ErrForm
	}
	return value, width, api.OK
}

// counted answers a number of things that follow, of least bytes each, and how many bytes the number has.
func (n *numbers) counted(most, least int) (count, width int, e api.Errno) {
	count, width, e = n.number()
	switch {
	case e != api.OK:
		return 0, 0, e
	case count > most:
		return 0, 0, api.ErrMore
	case count > (n.left()-width)/max(least, 1):
		// Divided, for a product could wrap.
		return 0, 0, api.ErrShort
	}
	return count, width, api.OK
}
