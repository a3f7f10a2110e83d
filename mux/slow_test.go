package mux_test

import (
	"encoding/binary"
	"fmt"
	"math"
	"strings"

	"hawser/api"
)

// The same answers by other means than the program's: both sides keep a list of all that has happened, and tell each answer from it anew; pieces are made byte by byte; frames are written by the library's numbers, and read by being written again.

const (
	mostCalls = 64
	mostBytes = 65536
)

// sender and receiver are the two sides, be it the program's or the slow ones.
type sender interface {
	Put(text string) int
	Send(pick int) (api.Frame, bool)
	Ack(call, n int) api.Errno
	Way(call int) int
	Left() int
}

type receiver interface {
	Take(f api.Frame) (int, api.Errno)
	Done() []int
	Text(call int) (string, bool)
}

type acked struct{ call, n int }

type slowOut struct {
	window, size int
	texts        []string
	sent         []api.Frame
	acks         []acked
}

// pieces are the frames of one call.
func pieces(all []api.Frame, call int) []api.Frame {
	var own []api.Frame
	for _, f := range all {
		if f.Call == call {
			own = append(own, f)
		}
	}
	return own
}

// joined is the text of frames.
func joined(all []api.Frame) string {
	text := ""
	for _, f := range all {
		text += f.Text
	}
	return text
}

func (o *slowOut) there(call int) bool { return 0 <= call && call < len(o.texts) }

// known is how much of the call was told to be there.
func (o *slowOut) known(call int) int {
	n := 0
	for _, a := range o.acks {
		if a.call == call {
			n = a.n
		}
	}
	return n
}

func (o *slowOut) waits(call int) bool {
	own := pieces(o.sent, call)
	return joined(own) != o.texts[call] || len(own) == 0
}

func (o *slowOut) Put(text string) int {
	if len(o.texts) == mostCalls || len(text) > mostBytes {
		return -1
	}
	o.texts = append(o.texts, text)
	return len(o.texts) - 1
}

func (o *slowOut) Send(pick int) (api.Frame, bool) {
	var may []int
	for call := range o.texts {
		if o.waits(call) && o.Way(call) < o.window {
			may = append(may, call)
		}
	}
	if len(may) == 0 {
		return api.Frame{}, false
	}
	if pick < 0 {
		pick = 0
	}
	call := may[pick-pick/len(may)*len(may)]
	at := len(joined(pieces(o.sent, call)))
	f := api.Frame{Call: call, At: at}
	for _, b := range []byte(o.texts[call][at:]) {
		if len(f.Text) == o.size || o.Way(call)+len(f.Text) == o.window {
			break
		}
		f.Text += string([]byte{b})
	}
	f.Last = at+len(f.Text) == len(o.texts[call])
	o.sent = append(o.sent, f)
	return f, true
}

func (o *slowOut) Ack(call, n int) api.Errno {
	if !o.there(call) || n < o.known(call) || n > len(joined(pieces(o.sent, call))) {
		return api.ErrCall
	}
	o.acks = append(o.acks, acked{call, n})
	return api.OK
}

func (o *slowOut) Way(call int) int {
	if !o.there(call) {
		return 0
	}
	return len(joined(pieces(o.sent, call))) - o.known(call)
}

func (o *slowOut) Left() int {
	n := 0
	for call := range o.texts {
		if o.waits(call) {
			n++
		}
	}
	return n
}

type slowIn struct {
	taken []api.Frame
}

func (i *slowIn) Take(f api.Frame) (int, api.Errno) {
	came, done := i.Text(f.Call)
	if f.Call < 0 || f.Call >= mostCalls || done || f.At != len(came) || len(came+f.Text) > mostBytes {
		return 0, api.ErrCall
	}
	i.taken = append(i.taken, f)
	return len(came + f.Text), api.OK
}

func (i *slowIn) Done() []int {
	var done []int
	for _, f := range i.taken {
		if f.Last {
			done = append(done, f.Call)
		}
	}
	return done
}

func (i *slowIn) Text(call int) (string, bool) {
	own := pieces(i.taken, call)
	return joined(own), len(own) > 0 && own[len(own)-1].Last
}

// step is a call on a sender, or a frame for a receiver.
type step struct {
	name  string
	text  string
	a, b  int
	frame api.Frame
}

func (s step) String() string {
	return fmt.Sprintf("%s(%.20q %d %d %.40q)", s.name, s.text, s.a, s.b, fmt.Sprint(s.frame))
}

func put(text string) step  { return step{name: "Put", text: text} }
func send(pick int) step    { return step{name: "Send", a: pick} }
func ack(call, n int) step  { return step{name: "Ack", a: call, b: n} }
func take(f api.Frame) step { return step{name: "Take", frame: f} }

// frame is a frame that isn't the last one of its call, last one that is.
func frame(call, at int, text string) api.Frame { return api.Frame{Call: call, At: at, Text: text} }

func last(call, at int, text string) api.Frame {
	return api.Frame{Call: call, At: at, Text: text, Last: true}
}

// answer is what a step answers, and what is told behind it.
type answer struct {
	n     int
	frame api.Frame
	ok    bool
	err   api.Errno
	left  int
	ways  [7]int
	texts [7]string
	dones [7]bool
	done  string
}

// looked are the numbers of calls that are asked for behind each step.
func looked() [7]int { return [7]int{-1, 0, 1, 2, 3, 63, 64} }

func (s step) onSender(o sender) answer {
	var got answer
	switch s.name {
	case "Put":
		got.n = o.Put(s.text)
	case "Send":
		got.frame, got.ok = o.Send(s.a)
	case "Ack":
		got.err = o.Ack(s.a, s.b)
	}
	got.left = o.Left()
	for k, call := range looked() {
		got.ways[k] = o.Way(call)
	}
	return got
}

func (s step) onReceiver(i receiver) answer {
	var got answer
	got.n, got.err = i.Take(s.frame)
	for k, call := range looked() {
		got.texts[k], got.dones[k] = i.Text(call)
	}
	got.done = fmt.Sprint(i.Done())
	return got
}

// slowEncode writes by the library's numbers.
func slowEncode(f api.Frame) string {
	if min(f.Call, f.At) < 0 {
		return ""
	}
	b := binary.AppendUvarint(nil, uint64(f.Call))
	b = binary.AppendUvarint(b, uint64(f.At))
	b = binary.AppendUvarint(b, uint64(len(f.Text)))
	b = append(b, f.Text...)
	if f.Last {
		return string(append(b, 1))
	}
	return string(append(b, 0))
}

// slowDecode reads without asking much, and sees whether what it has read is written just so.
func slowDecode(s string) (api.Frame, api.Errno) {
	var numbers [3]int
	rest := s
	for k := range numbers {
		n, width := binary.Uvarint([]byte(rest))
		if width <= 0 || n > math.MaxInt {
			return api.Frame{}, api.ErrCall
		}
		numbers[k], rest = int(n), rest[width:]
	}
	if numbers[2] > len(rest) || numbers[2] > mostBytes {
		return api.Frame{}, api.ErrCall
	}
	f := api.Frame{Call: numbers[0], At: numbers[1], Text: strings.Clone(rest[:numbers[2]]), Last: strings.HasSuffix(rest, "\x01")}
	if slowEncode(f) != s {
		return api.Frame{}, api.ErrCall
	}
	return f, api.OK
}
