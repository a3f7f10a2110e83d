package mux

import "hawser/api"

// calls are one side's calls, by their numbers.
type calls[C any] struct {
	list []C
}

// call answers the call of this number, or nil.
func (c *calls[C]) call(n int) *C {
	if n < 0 || n >= len(c.list) {
		return nil
	}
	return &c.list[n]
}

// passed is what both sides keep of a call: where its next piece begins, and whether its last one has passed.
type passed struct {
	at    int
	ended bool
}

// pass goes on behind a piece.
func (p *passed) pass(f api.Frame) {
	p.at += len(f.Text)
	p.ended = f.Last
}
