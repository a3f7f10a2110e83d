package mux

import (
	"slices"

	"hawser/api"
)

// In puts the texts of calls together again.
type In struct {
	calls[coming]
	done []int
}

// coming is a call of a receiver.
type coming struct {
	passed
	text []byte
}

// NewIn answers a receiver to which nothing has come.
func NewIn() *In {
	return &In{calls: calls[coming]{make([]coming, api.MaxCalls)}}
}

// Take takes a frame that has come, and answers how many bytes of its call there are now.
func (i *In) Take(f api.Frame) (int, api.Errno) {
	if i == nil {
		return 0, api.ErrCall
	}
	c := i.call(f.Call)
	if c == nil || c.ended || f.At != c.at || len(f.Text) > api.MaxData-c.at {
		return 0, api.ErrCall
	}
	c.pass(f)
	c.text = append(c.text, f.Text...)
	if f.Last {
		i.done = append(i.done, f.Call)
	}
	return c.at, api.OK
}

// Done answers the numbers of the calls that are done, in the order in which they were.
func (i *In) Done() []int {
	if i == nil {
		return nil
	}
	return slices.Clone(i.done)
}

// Text answers what has come of the call, and whether it is done.
func (i *In) Text(call int) (string, bool) {
	if i == nil {
		return "", false
	}
	c := i.call(call)
	if c == nil {
		return "", false
	}
	return string(c.text), c.ended
}
