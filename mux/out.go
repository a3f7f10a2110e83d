package mux

import (
	"strings"

	"hawser/api"
)

// Out sends the texts of its calls in pieces.
type Out struct {
	calls[going]
	window, size int
}

// going is a call of a sender.
type going struct {
	passed
	left  string // what wasn't sent yet
	acked int
}

// NewOut answers a sender without calls: of each of them window bytes may be on their way, and a frame has size bytes at most.
func NewOut(window, size int) (*Out, api.Errno) {
	if window < 1 || size < 1 {
		return nil, api.ErrArg
	}
	return &Out{window: window, size: size}, api.OK
}

// Put answers the number of a new call with this text, or -1 if there can't be one.
func (o *Out) Put(text string) int {
	if o == nil || len(o.list) >= api.MaxCalls || len(text) > api.MaxData {
		return -1
	}
	o.list = append(o.list, going{left: text})
	return len(o.list) - 1
}

// Send answers the next piece of the call at the place pick among those that may send, and whether there is one.
func (o *Out) Send(pick int) (api.Frame, bool) {
	if o == nil {
		return api.Frame{}, false
	}
	ready := o.ready()
	if len(ready) == 0 {
		return api.Frame{}, false
	}
	n := ready[max(pick, 0)%len(ready)]
	f := o.list[n].piece(o.window, o.size)
	f.Call = n
	return f, true
}

// Ack is told that the other side has n bytes of the call.
func (o *Out) Ack(call, n int) api.Errno {
	if o == nil {
		return api.ErrCall
	}
	c := o.call(call)
	if c == nil || n < c.acked || n > c.at {
		return api.ErrCall
	}
	c.acked = n
	return api.OK
}

// Way answers how many bytes of the call are on their way.
func (o *Out) Way(call int) int {
	if o == nil {
		return 0
	}
	c := o.call(call)
	if c == nil {
		return 0
	}
	return c.way()
}

// Left answers how many calls wait.
func (o *Out) Left() int {
	if o == nil {
		return 0
	}
	waiting := 0
	for n := range o.list {
		if o.list[n].waits() {
			waiting++
		}
	}
	return waiting
}

// ready answers the numbers of the calls that may send.
func (o *Out) ready() []int {
	var ready []int
	for n := range o.list {
		if c := &o.list[n]; c.waits() && c.way() < o.window {
			ready = append(ready, n)
		}
	}
	return ready
}

// way is how many bytes are on their way.
func (g *going) way() int { return g.at - g.acked }

// waits tells whether the end wasn't sent yet, which an empty text has too.
func (g *going) waits() bool { return !g.ended }

// piece takes the next piece, as great as it may be.
func (g *going) piece(window, size int) api.Frame {
	n := min(len(g.left), size, window-g.way())
	// Copied, so that a frame that is kept does not keep the whole text.
	f := api.Frame{At: g.at, Text: strings.Clone(g.left[:n]), Last: n == len(g.left)}
	g.left = g.left[n:]
	g.pass(f)
	return f
}
