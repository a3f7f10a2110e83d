package mux_test

import (
	"fmt"
	"math"
	"math/rand"
	"slices"
	"strings"
	"testing"
	"unsafe"

	"hawser/api"
	"hawser/mux"
)

// rep is s, n times.
func rep(s string, n int) string { return strings.Repeat(s, n) }

// anyBytes is a text of n bytes of any kind.
func anyBytes(dice *rand.Rand, n int) string {
	all := make([]byte, n)
	for i := range all {
		all[i] = byte(dice.Intn(256))
	}
	return string(all)
}

// out is a sender.
func out(t *testing.T, window, size int) *mux.Out {
	t.Helper()
	o, e := mux.NewOut(window, size)
	if e != api.OK || o == nil {
		t.Fatalf("NewOut(%d, %d) is %d", window, size, e)
	}
	return o
}

// wantPut asks for the number of a call more.
func wantPut(t *testing.T, o *mux.Out, text string, want int) {
	t.Helper()
	if got := o.Put(text); got != want {
		t.Errorf("Put of %d bytes is %d, not %d", len(text), got, want)
	}
}

// wantSend asks for a frame.
func wantSend(t *testing.T, o *mux.Out, pick int, want api.Frame) {
	t.Helper()
	if got, ok := o.Send(pick); !ok || got != want {
		t.Errorf("Send(%d) is %.60q, %t, not %.60q", pick, fmt.Sprint(got), ok, fmt.Sprint(want))
	}
}

// wantNone asks for no frame.
func wantNone(t *testing.T, o *mux.Out, pick int) {
	t.Helper()
	if got, ok := o.Send(pick); ok || got != (api.Frame{}) {
		t.Errorf("Send(%d) is %.60q, %t", pick, fmt.Sprint(got), ok)
	}
}

func wantAck(t *testing.T, o *mux.Out, call, n int, want api.Errno) {
	t.Helper()
	if got := o.Ack(call, n); got != want {
		t.Errorf("Ack(%d, %d) is %d, not %d", call, n, got, want)
	}
}

// wantWays asks for what is on its way of the calls from 0 on.
func wantWays(t *testing.T, o *mux.Out, want ...int) {
	t.Helper()
	for call, n := range want {
		if got := o.Way(call); got != n {
			t.Errorf("Way(%d) is %d, not %d", call, got, n)
		}
	}
}

func wantLeft(t *testing.T, o *mux.Out, want int) {
	t.Helper()
	if got := o.Left(); got != want {
		t.Errorf("Left is %d, not %d", got, want)
	}
}

// wantTake asks how much of the frame's call there is now.
func wantTake(t *testing.T, i *mux.In, f api.Frame, want int) {
	t.Helper()
	if n, e := i.Take(f); n != want || e != api.OK {
		t.Errorf("Take(%.60q) is %d, %d, not %d", fmt.Sprint(f), n, e, want)
	}
}

// wantRefused asks for a frame not to be taken, and for all to stay as it was.
func wantRefused(t *testing.T, i *mux.In, f api.Frame) {
	t.Helper()
	was, done := texts(i), i.Done()
	if n, e := i.Take(f); n != 0 || e != api.ErrCall {
		t.Errorf("Take(%.60q) is %d, %d", fmt.Sprint(f), n, e)
	}
	if !slices.Equal(texts(i), was) || !slices.Equal(i.Done(), done) {
		t.Errorf("Take(%.60q) has changed what there is", fmt.Sprint(f))
	}
}

// texts are what there is of each call, and a bit behind each that tells whether it is done.
func texts(i receiver) []string {
	var all []string
	for call := -2; call < mostCalls+2; call++ {
		text, done := i.Text(call)
		all = append(all, fmt.Sprint(text, done))
	}
	return all
}

func wantText(t *testing.T, i *mux.In, call int, want string, done bool) {
	t.Helper()
	if got, ok := i.Text(call); got != want || ok != done {
		t.Errorf("Text(%d) is %.60q of %d bytes, %t, not %.60q, %t", call, got, len(got), ok, want, done)
	}
}

func wantDone(t *testing.T, i *mux.In, want ...int) {
	t.Helper()
	if got := i.Done(); !slices.Equal(got, want) {
		t.Errorf("Done is %v, not %v", got, want)
	}
}

// P16.1: a window and a size are 1 at least.
func TestNewOut(t *testing.T) {
	for _, window := range []int{math.MinInt, -1 << 32, -1, 0, 1, 2, 1 << 32, math.MaxInt} {
		for _, size := range []int{math.MinInt, -1 << 32, -1, 0, 1, 2, 1 << 32, math.MaxInt} {
			o, e := mux.NewOut(window, size)
			if right := window > 0 && size > 0; right != (e == api.OK) || right != (o != nil) || !right && e != api.ErrArg {
				t.Errorf("NewOut(%d, %d) is %v, %d", window, size, o, e)
			}
			if o != nil {
				wantLeft(t, o, 0)
				wantNone(t, o, 0)
				wantWays(t, o, 0, 0)
				wantAck(t, o, 0, 0, api.ErrCall)
				wantPut(t, o, "a", 0)
			}
		}
	}
}

// P16.1: the chapter's examples.
func TestExamples(t *testing.T) {
	o := out(t, 4, 3)
	wantPut(t, o, "abcdef", 0)
	wantSend(t, o, 0, frame(0, 0, "abc"))
	wantSend(t, o, 0, frame(0, 3, "d"))
	wantNone(t, o, 0)
	wantAck(t, o, 0, 4, api.OK)
	wantSend(t, o, 0, last(0, 4, "ef"))
	wantPut(t, o, "", 1)
	wantSend(t, o, 0, last(1, 0, ""))
}

// P16.1: 64 calls at most, of MaxData bytes at most; a refused one leaves no trace.
func TestPut(t *testing.T) {
	o := out(t, 1, 1)
	wantPut(t, o, rep("x", mostBytes+1), -1)
	wantPut(t, o, rep("x", 1<<24), -1)
	wantLeft(t, o, 0)
	wantNone(t, o, 0)
	wantPut(t, o, rep("x", mostBytes), 0)
	wantPut(t, o, rep("x", mostBytes+1), -1)
	wantPut(t, o, "", 1)
	wantLeft(t, o, 2)
	for n := 2; n < mostCalls; n++ {
		wantPut(t, o, "ab", n)
		wantLeft(t, o, n+1)
	}
	for _, text := range []string{"", "a", rep("x", mostBytes), rep("x", mostBytes+1)} {
		wantPut(t, o, text, -1)
		wantLeft(t, o, mostCalls)
		wantAck(t, o, mostCalls, 0, api.ErrCall)
	}
	wantSend(t, o, 63, frame(63, 0, "a"))
	wantSend(t, o, 63, frame(0, 0, "x"))
	wantAck(t, o, 63, 1, api.OK)
	wantSend(t, o, 62, last(63, 1, "b"))
	// Calls that are done count too.
	wantAck(t, o, 63, 2, api.OK)
	wantPut(t, o, "a", -1)
}

// P16.1: what is picked is counted among those that may send, modulo how many there are.
func TestPick(t *testing.T) {
	for _, x := range []struct{ pick, call int }{
		{0, 0}, {1, 1}, {2, 2}, {3, 0}, {4, 1}, {5, 2}, {-1, 0}, {-2, 0}, {-3, 0}, {math.MinInt, 0}, {math.MinInt + 1, 0},
		{math.MaxInt, math.MaxInt % 3}, {math.MaxInt - 1, (math.MaxInt - 1) % 3}, {math.MaxInt - 2, (math.MaxInt - 2) % 3}, {1 << 32, 1}, {1<<32 + 1, 2}, {3000001, 1},
	} {
		o := out(t, 2, 9)
		wantPut(t, o, "abc", 0)
		wantPut(t, o, "de", 1)
		wantPut(t, o, "", 2)
		wantSend(t, o, x.pick, []api.Frame{frame(0, 0, "ab"), last(1, 0, "de"), last(2, 0, "")}[x.call])
	}
}

// P16.1: a call whose window is full, or that is sent whole, is not counted; it is again when something is acked, at its old place.
func TestPickAmongThoseThatMay(t *testing.T) {
	o := out(t, 2, 2)
	for n, text := range []string{"aaaa", "bbb", "", "dddd", "e"} {
		wantPut(t, o, text, n)
	}
	wantSend(t, o, 0, frame(0, 0, "aa"))
	wantSend(t, o, 0, frame(1, 0, "bb"))
	wantSend(t, o, 3, last(2, 0, ""))
	wantLeft(t, o, 4)
	wantSend(t, o, 1, last(4, 0, "e"))
	wantLeft(t, o, 3)
	wantSend(t, o, 7, frame(3, 0, "dd"))
	wantNone(t, o, 0)
	wantLeft(t, o, 3)
	wantWays(t, o, 2, 2, 0, 2, 1, 0)
	wantAck(t, o, 3, 1, api.OK)
	wantAck(t, o, 0, 2, api.OK)
	wantSend(t, o, 1, frame(3, 2, "d"))
	wantSend(t, o, 1, last(0, 2, "aa"))
	wantNone(t, o, 1)
	wantAck(t, o, 1, 1, api.OK)
	wantSend(t, o, 1, last(1, 2, "b"))
	wantLeft(t, o, 1)
	wantAck(t, o, 3, 3, api.OK)
	wantSend(t, o, 1, last(3, 3, "d"))
	wantLeft(t, o, 0)
	wantWays(t, o, 2, 2, 0, 1, 1)
	for pick := range 3 {
		wantNone(t, o, pick)
	}
}

// P16.1: a piece has what is left, what the size lets be, and what the window leaves, whichever is least.
func TestPiece(t *testing.T) {
	for _, x := range []struct {
		window, size int
		text         string
		want         []api.Frame
	}{
		{9, 9, "", []api.Frame{last(0, 0, "")}}, {1, 1, "", []api.Frame{last(0, 0, "")}},
		{9, 9, "a", []api.Frame{last(0, 0, "a")}}, {1, 1, "a", []api.Frame{last(0, 0, "a")}}, {math.MaxInt, math.MaxInt, "abc", []api.Frame{last(0, 0, "abc")}},
		{3, 3, "abc", []api.Frame{last(0, 0, "abc")}}, {3, 9, "abc", []api.Frame{last(0, 0, "abc")}}, {9, 3, "abc", []api.Frame{last(0, 0, "abc")}},
		{2, 9, "abc", []api.Frame{frame(0, 0, "ab")}}, {9, 2, "abc", []api.Frame{frame(0, 0, "ab"), last(0, 2, "c")}},
		{5, 2, "abcdef", []api.Frame{frame(0, 0, "ab"), frame(0, 2, "cd"), frame(0, 4, "e")}}, {6, 2, "abcdef", []api.Frame{frame(0, 0, "ab"), frame(0, 2, "cd"), last(0, 4, "ef")}},
		{math.MaxInt, 1, "abc", []api.Frame{frame(0, 0, "a"), frame(0, 1, "b"), last(0, 2, "c")}}, {1, math.MaxInt, "abc", []api.Frame{frame(0, 0, "a")}},
		{9, 9, "\x00\xff\x80", []api.Frame{last(0, 0, "\x00\xff\x80")}}, {4, 1, "é世", []api.Frame{frame(0, 0, "\xc3"), frame(0, 1, "\xa9"), frame(0, 2, "\xe4"), frame(0, 3, "\xb8")}},
		{mostBytes, mostBytes, rep("x", mostBytes), []api.Frame{last(0, 0, rep("x", mostBytes))}}, {mostBytes, mostBytes - 1, rep("x", mostBytes), []api.Frame{frame(0, 0, rep("x", mostBytes-1)), last(0, mostBytes-1, "x")}},
		{mostBytes - 1, mostBytes, rep("x", mostBytes), []api.Frame{frame(0, 0, rep("x", mostBytes-1))}},
	} {
		o := out(t, x.window, x.size)
		wantPut(t, o, x.text, 0)
		for _, f := range x.want {
			wantLeft(t, o, 1)
			wantSend(t, o, 0, f)
		}
		wantNone(t, o, 0)
	}
}

// P16.1: from what is acked to what was sent, and no other number, of a call that there is.
func TestAck(t *testing.T) {
	o := out(t, 4, 4)
	wantPut(t, o, "abcdefgh", 0)
	wantPut(t, o, "xy", 1)
	for _, n := range []int{math.MinInt, -1, 1, 8, math.MaxInt} {
		wantAck(t, o, 0, n, api.ErrCall)
	}
	wantAck(t, o, 0, 0, api.OK)
	wantSend(t, o, 0, frame(0, 0, "abcd"))
	for _, n := range []int{math.MinInt, -1, 5, 8, math.MaxInt} {
		wantAck(t, o, 0, n, api.ErrCall)
		wantWays(t, o, 4, 0)
	}
	for _, call := range []int{math.MinInt, -1, 2, 63, 64, math.MaxInt} {
		for _, n := range []int{-1, 0, 1, 4} {
			wantAck(t, o, call, n, api.ErrCall)
		}
		if o.Way(call) != 0 {
			t.Errorf("Way(%d) is %d", call, o.Way(call))
		}
	}
	wantAck(t, o, 1, 1, api.ErrCall)
	// What was refused has changed nothing.
	wantLeft(t, o, 2)
	wantSend(t, o, 0, last(1, 0, "xy"))
	wantNone(t, o, 0)
	wantAck(t, o, 0, 4, api.OK)
	wantSend(t, o, 0, last(0, 4, "efgh"))
}

// P16.1: what was acked may be acked again, but never less.
func TestAckGoesUp(t *testing.T) {
	o := out(t, 4, 4)
	wantPut(t, o, "abcdefgh", 0)
	wantSend(t, o, 0, frame(0, 0, "abcd"))
	for n := range 5 {
		wantAck(t, o, 0, n, api.OK)
		wantAck(t, o, 0, n, api.OK)
		wantAck(t, o, 0, n-1, api.ErrCall)
		wantAck(t, o, 0, -1, api.ErrCall)
		wantWays(t, o, 4-n)
	}
	wantAck(t, o, 0, 5, api.ErrCall)
	wantSend(t, o, 0, last(0, 4, "efgh"))
	wantAck(t, o, 0, 3, api.ErrCall)
	wantWays(t, o, 4)
	wantAck(t, o, 0, 9, api.ErrCall)
	wantAck(t, o, 0, 8, api.OK)
	wantWays(t, o, 0)
	wantAck(t, o, 0, 8, api.OK)
	wantAck(t, o, 0, 7, api.ErrCall)
	// A call that is sent whole is still one, an empty one too.
	wantPut(t, o, "", 1)
	wantAck(t, o, 1, 0, api.OK)
	wantLeft(t, o, 1)
	wantSend(t, o, 0, last(1, 0, ""))
	wantAck(t, o, 1, 0, api.OK)
	wantAck(t, o, 1, 1, api.ErrCall)
	wantLeft(t, o, 0)
}

// P16.1: an empty text waits till its one frame is sent, and not longer.
func TestEmptyTexts(t *testing.T) {
	o := out(t, 1, 1)
	for n := range 3 {
		wantPut(t, o, "", n)
	}
	wantLeft(t, o, 3)
	wantSend(t, o, 1, last(1, 0, ""))
	wantLeft(t, o, 2)
	wantSend(t, o, 1, last(2, 0, ""))
	wantSend(t, o, 1, last(0, 0, ""))
	wantLeft(t, o, 0)
	wantNone(t, o, 0)
	wantWays(t, o, 0, 0, 0)
}

// P16.1: a frame is taken if it goes on where its call stands.
func TestTake(t *testing.T) {
	i := mux.NewIn()
	wantDone(t, i)
	for _, call := range []int{math.MinInt, -1, 64, 65, 1 << 32, math.MaxInt} {
		for _, f := range []api.Frame{frame(call, 0, ""), frame(call, 0, "a"), last(call, 0, ""), last(call, 0, "a")} {
			wantRefused(t, i, f)
		}
		wantText(t, i, call, "", false)
	}
	for _, at := range []int{math.MinInt, -1, 1, 2, math.MaxInt} {
		wantRefused(t, i, frame(5, at, "ab"))
		wantRefused(t, i, last(5, at, ""))
	}
	wantText(t, i, 5, "", false)
	wantTake(t, i, frame(5, 0, "ab"), 2)
	wantText(t, i, 5, "ab", false)
	for _, at := range []int{math.MinInt, -2, 0, 1, 3, 4, math.MaxInt} {
		wantRefused(t, i, frame(5, at, "ab"))
		wantRefused(t, i, last(5, at, ""))
	}
	wantTake(t, i, frame(5, 2, ""), 2)
	wantTake(t, i, frame(5, 2, "\x00\xff"), 4)
	wantTake(t, i, frame(0, 0, "x"), 1)
	wantTake(t, i, last(63, 0, "end"), 3)
	wantTake(t, i, last(5, 4, "c"), 5)
	wantText(t, i, 5, "ab\x00\xffc", true)
	wantText(t, i, 0, "x", false)
	wantText(t, i, 63, "end", true)
	wantText(t, i, 1, "", false)
	wantDone(t, i, 63, 5)
	for _, f := range []api.Frame{frame(5, 5, ""), last(5, 5, ""), frame(5, 5, "a"), last(5, 0, "ab"), frame(63, 3, "x"), last(63, 3, "")} {
		wantRefused(t, i, f)
	}
	wantTake(t, i, last(0, 1, ""), 1)
	wantText(t, i, 0, "x", true)
	wantDone(t, i, 63, 5, 0)
}

// P16.1: an empty frame begins a call, and ends it with Last alone.
func TestTakeEmpty(t *testing.T) {
	i := mux.NewIn()
	wantTake(t, i, frame(7, 0, ""), 0)
	wantText(t, i, 7, "", false)
	wantTake(t, i, frame(7, 0, ""), 0)
	wantDone(t, i)
	wantTake(t, i, last(7, 0, ""), 0)
	wantText(t, i, 7, "", true)
	wantDone(t, i, 7)
	wantRefused(t, i, last(7, 0, ""))
}

// P16.1: a call has MaxData bytes at most.
func TestTakeMost(t *testing.T) {
	i := mux.NewIn()
	wantRefused(t, i, last(0, 0, rep("x", mostBytes+1)))
	wantRefused(t, i, frame(0, 0, rep("x", 1<<24)))
	wantTake(t, i, last(0, 0, rep("x", mostBytes)), mostBytes)
	wantText(t, i, 0, rep("x", mostBytes), true)
	wantTake(t, i, frame(1, 0, rep("x", mostBytes-1)), mostBytes-1)
	wantRefused(t, i, frame(1, mostBytes-1, "ab"))
	wantRefused(t, i, last(1, mostBytes-1, "ab"))
	wantRefused(t, i, frame(1, mostBytes-1, rep("x", mostBytes)))
	wantTake(t, i, frame(1, mostBytes-1, "a"), mostBytes)
	wantRefused(t, i, frame(1, mostBytes, "a"))
	wantTake(t, i, frame(1, mostBytes, ""), mostBytes)
	wantTake(t, i, last(1, mostBytes, ""), mostBytes)
	wantText(t, i, 1, rep("x", mostBytes-1)+"a", true)
	wantDone(t, i, 0, 1)
	// Other calls have bytes of their own.
	for call := 2; call < mostCalls; call++ {
		wantTake(t, i, last(call, 0, rep("x", mostBytes)), mostBytes)
	}
}

// P16.1: a text that comes byte by byte.
func TestTakeByteByByte(t *testing.T) {
	text := anyBytes(rand.New(rand.NewSource(16)), mostBytes)
	i := mux.NewIn()
	for at := range len(text) {
		if n, e := i.Take(frame(9, at, text[at:at+1])); n != at+1 || e != api.OK {
			t.Fatalf("at %d: %d, %d", at, n, e)
		}
	}
	wantText(t, i, 9, text, false)
}

// P16.1: calls are told in the order in which they were done, not in that of their numbers, nor of their beginnings.
func TestDone(t *testing.T) {
	i := mux.NewIn()
	dice := rand.New(rand.NewSource(1))
	for call := range mostCalls {
		wantTake(t, i, frame(call, 0, "a"), 1)
	}
	order := dice.Perm(mostCalls)
	for n, call := range order {
		wantTake(t, i, last(call, 1, "b"), 2)
		wantDone(t, i, order[:n+1]...)
	}
}

// P16.1: of nil.
func TestNil(t *testing.T) {
	var o *mux.Out
	var i *mux.In
	for _, n := range []int{math.MinInt, -1, 0, 1, 64, math.MaxInt} {
		wantPut(t, o, "", -1)
		wantPut(t, o, "a", -1)
		wantNone(t, o, n)
		wantAck(t, o, n, 0, api.ErrCall)
		wantAck(t, o, 0, n, api.ErrCall)
		wantLeft(t, o, 0)
		if o.Way(n) != 0 {
			t.Errorf("Way(%d) of nil is %d", n, o.Way(n))
		}
		wantRefused(t, i, frame(n, 0, ""))
		wantRefused(t, i, last(0, n, "a"))
		wantText(t, i, n, "", false)
		wantDone(t, i)
	}
}

// checkOut asks a sender and the slow one, and sees that no call has more on its way than the window, and no frame more than size bytes.
func checkOut(t *testing.T, window, size int, steps []step) {
	t.Helper()
	o, slow := out(t, window, size), &slowOut{window: window, size: size}
	for n, s := range steps {
		got, want := s.onSender(o), s.onSender(slow)
		if got != want {
			t.Fatalf("NewOut(%d, %d), %v is %.300q, not %.300q", window, size, steps[:n+1], fmt.Sprint(got), fmt.Sprint(want))
		}
		if slices.Max(got.ways[:]) > window || slices.Min(got.ways[:]) < 0 || len(got.frame.Text) > size {
			t.Fatalf("NewOut(%d, %d), %v: on their way are %v, the frame has %d", window, size, steps[:n+1], got.ways, len(got.frame.Text))
		}
	}
}

// rows goes through all rows of n of these steps.
func rows(n int, steps []step, use func([]step)) {
	row := make([]step, n)
	var fill func(int)
	fill = func(k int) {
		if k == n {
			use(row)
			return
		}
		for _, s := range steps {
			row[k] = s
			fill(k + 1)
		}
	}
	fill(0)
}

// P16.1, P16.3: each short row of calls of a sender.
func TestEachRowOfSteps(t *testing.T) {
	begun := []step{put("abc"), put(""), put("de")}
	steps := []step{send(-1), send(0), send(1), send(2), ack(0, 1), ack(0, 2), ack(0, 3), ack(2, 1), put("x")}
	for _, x := range []struct{ window, size int }{{1, 1}, {2, 1}, {1, 2}, {2, 2}, {3, 2}, {2, 3}, {math.MaxInt, math.MaxInt}} {
		rows(4, steps, func(row []step) { checkOut(t, x.window, x.size, append(begun[:3:3], row...)) })
	}
	rows(6, []step{put(""), put("ab"), send(0), send(1), ack(0, 1), ack(1, 2)}, func(row []step) { checkOut(t, 1, 2, row) })
	rows(6, []step{put("abcd"), send(0), send(2), ack(0, 0), ack(0, 2), ack(0, 3), ack(0, 4)}, func(row []step) { checkOut(t, 3, 2, row) })
}

// anySteps are calls of a sender, such as go on as well as such as are refused.
func anySteps(dice *rand.Rand, n int) []step {
	steps := []step{put(anyBytes(dice, dice.Intn(30)))}
	for range n {
		switch dice.Intn(8) {
		case 0:
			steps = append(steps, put(anyBytes(dice, dice.Intn(1+dice.Intn(30)))))
		case 1, 2, 3:
			steps = append(steps, send(dice.Intn(9)-1))
		default:
			steps = append(steps, ack(dice.Intn(5)-dice.Intn(2), dice.Intn(1+dice.Intn(31))-dice.Intn(2)))
		}
	}
	return steps
}

// P16.1, P16.3: any longer row of calls of a sender.
func TestOutAsSlow(t *testing.T) {
	dice := rand.New(rand.NewSource(160))
	for range 6000 {
		window, size := 1+dice.Intn(12), 1+dice.Intn(8)
		if dice.Intn(10) == 0 {
			window = math.MaxInt - dice.Intn(3)
		}
		if dice.Intn(10) == 0 {
			size = math.MaxInt - dice.Intn(3)
		}
		checkOut(t, window, size, anySteps(dice, 10+dice.Intn(60)))
	}
}

// checkIn asks a receiver and the slow one.
func checkIn(t *testing.T, steps []step) {
	t.Helper()
	i, slow := mux.NewIn(), &slowIn{}
	for n, s := range steps {
		if got, want := s.onReceiver(i), s.onReceiver(slow); got != want {
			t.Fatalf("%v is %.300q, not %.300q", steps[:n+1], fmt.Sprint(got), fmt.Sprint(want))
		}
	}
}

// someFrames are frames of these numbers.
func someFrames(calls, ats []int, texts ...string) []step {
	var all []step
	for _, call := range calls {
		for _, at := range ats {
			for _, text := range texts {
				all = append(all, take(frame(call, at, text)), take(last(call, at, text)))
			}
		}
	}
	return all
}

// P16.1: each short row of frames.
func TestEachRowOfFrames(t *testing.T) {
	rows(2, someFrames([]int{-1, 0, 1, 2, 63, 64}, []int{-1, 0, 1, 2}, "", "a", "bc"), func(row []step) { checkIn(t, row) })
	rows(3, someFrames([]int{0, 63}, []int{0, 1, 2}, "", "a", "bc"), func(row []step) { checkIn(t, row) })
	rows(4, someFrames([]int{1}, []int{0, 1, 2}, "", "a"), func(row []step) { checkIn(t, row) })
}

// P16.1: any longer row of frames.
func TestInAsSlow(t *testing.T) {
	dice := rand.New(rand.NewSource(161))
	for range 4000 {
		var steps []step
		slow := &slowIn{}
		for range 40 {
			call := looked()[dice.Intn(7)]
			came, _ := slow.Text(call)
			f := api.Frame{Call: call, At: len(came), Text: anyBytes(dice, dice.Intn(4)), Last: dice.Intn(8) == 0}
			switch dice.Intn(40) {
			case 0, 1, 2, 3:
				f.At += dice.Intn(5) - 2
			case 4:
				f.Text = rep("x", max(mostBytes-len(came)+dice.Intn(3)-1, 0))
			}
			slow.Take(f)
			steps = append(steps, take(f))
		}
		checkIn(t, steps[:1+dice.Intn(40)])
	}
}

// handed sends a frame, and takes it as its bytes tell it.
func handed(t *testing.T, o *mux.Out, i *mux.In, pick int) (call, n int, ok bool) {
	t.Helper()
	f, ok := o.Send(pick)
	if !ok {
		return 0, 0, false
	}
	came, e := mux.Decode(mux.Encode(f))
	if e != api.OK || came != f {
		t.Fatalf("%.80q is read as %.80q, %d", fmt.Sprint(f), fmt.Sprint(came), e)
	}
	n, e = i.Take(came)
	if e != api.OK || n != f.At+len(f.Text) {
		t.Fatalf("Take(%.80q) is %d, %d", fmt.Sprint(f), n, e)
	}
	return f.Call, n, true
}

// wantWhole asks for all to be sent and to have come.
func wantWhole(t *testing.T, o *mux.Out, i *mux.In, all []string) {
	t.Helper()
	wantLeft(t, o, 0)
	wantNone(t, o, 0)
	for call, text := range all {
		wantText(t, i, call, text, true)
		wantWays(t, o, make([]int, call+1)...)
	}
	done := i.Done()
	slices.Sort(done)
	if len(done) != len(all) || len(done) > 0 && (done[0] != 0 || done[len(done)-1] != len(all)-1) || len(slices.Compact(done)) != len(all) {
		t.Errorf("of %d calls %v are done", len(all), done)
	}
	if t.Failed() {
		t.FailNow()
	}
}

// framesAtMost is how many frames so many bytes can need, of a byte each, and one for each empty text.
func framesAtMost(all []string) int { return len(strings.Join(all, "")) + len(all) }

// P16.2: each order of picks.
func TestEachOrderOfPicks(t *testing.T) {
	all := []string{"abc", "", "de", "f"}
	for _, x := range []struct{ window, size int }{{1, 1}, {2, 1}, {1, 2}, {3, 2}, {9, 9}} {
		rows(7, []step{send(0), send(1), send(2), send(3)}, func(picks []step) {
			o, i := out(t, x.window, x.size), mux.NewIn()
			for n, text := range all {
				wantPut(t, o, text, n)
			}
			for n := 0; o.Left() > 0; n++ {
				call, came, ok := handed(t, o, i, picks[n%7].a)
				if !ok || n > framesAtMost(all) {
					t.Fatalf("behind %d frames %d calls wait", n, o.Left())
				}
				wantAck(t, o, call, came, api.OK)
			}
			wantWhole(t, o, i, all)
		})
	}
}

// anyTexts are texts of any lengths, at most 64.
func anyTexts(dice *rand.Rand) []string {
	all := make([]string, dice.Intn(1+dice.Intn(mostCalls+1)))
	for n := range all {
		all[n] = anyBytes(dice, dice.Intn(1+dice.Intn(200)))
	}
	return all
}

// anyNumber is from 1 on, most often low, now and then as great as can be.
func anyNumber(dice *rand.Rand, most int) int {
	if dice.Intn(8) == 0 {
		return math.MaxInt - dice.Intn(2)
	}
	return 1 + dice.Intn(1+dice.Intn(most))
}

// P16.2, P16.3: whatever is picked, also while calls are put.
func TestWhole(t *testing.T) {
	dice := rand.New(rand.NewSource(162))
	for range 400 {
		all := anyTexts(dice)
		window, size := anyNumber(dice, 100), anyNumber(dice, 100)
		o, i := out(t, window, size), mux.NewIn()
		some := 0
		for frames := 0; some < len(all) || o.Left() > 0; {
			if some < len(all) && (o.Left() == 0 || dice.Intn(3) == 0) {
				wantPut(t, o, all[some], some)
				some++
				continue
			}
			call, n, ok := handed(t, o, i, dice.Intn(mostCalls)-1)
			if frames++; !ok || frames > framesAtMost(all) {
				t.Fatalf("behind %d frames %d calls wait", frames, o.Left())
			}
			if o.Way(call) > min(window, size) {
				t.Fatalf("of call %d %d bytes are on their way", call, o.Way(call))
			}
			wantAck(t, o, call, n, api.OK)
		}
		wantWhole(t, o, i, all)
	}
}

// P16.2, P16.3: the same with acks that come late, so that windows are full.
func TestWholeWithLateAcks(t *testing.T) {
	dice := rand.New(rand.NewSource(163))
	for range 400 {
		all := anyTexts(dice)
		window, size := anyNumber(dice, 40), anyNumber(dice, 40)
		o, i := out(t, window, size), mux.NewIn()
		for n, text := range all {
			wantPut(t, o, text, n)
		}
		frames := 0
		var late []acked
		for o.Left() > 0 || len(late) > 0 {
			if len(late) == 0 || dice.Intn(4) > 0 {
				call, n, ok := handed(t, o, i, dice.Intn(mostCalls)-1)
				if ok {
					late = append(late, acked{call, n})
					frames++
				}
				if len(late) == 0 || frames > framesAtMost(all) || o.Way(call) > window {
					t.Fatalf("behind %d frames %d calls wait, and of call %d %d bytes are on their way", frames, o.Left(), call, o.Way(call))
				}
				if ok {
					continue
				}
			}
			wantAck(t, o, late[0].call, late[0].n, api.OK)
			late = late[1:]
		}
		wantWhole(t, o, i, all)
	}
}

// P16.2: the most that there can be.
func TestWholeOfTheMost(t *testing.T) {
	dice := rand.New(rand.NewSource(164))
	o, i := out(t, 4096, 1024), mux.NewIn()
	all := make([]string, mostCalls)
	for n := range all {
		all[n] = anyBytes(dice, mostBytes-n*n)
		wantPut(t, o, all[n], n)
	}
	for frames := 0; o.Left() > 0; frames++ {
		call, n, ok := handed(t, o, i, dice.Intn(mostCalls))
		if !ok || frames > mostCalls*mostBytes/1024 {
			t.Fatalf("behind %d frames %d calls wait", frames, o.Left())
		}
		wantAck(t, o, call, n, api.OK)
	}
	wantWhole(t, o, i, all)
}

// P16.3: nothing comes back: each call gets its window, in frames of the size.
func TestWindow(t *testing.T) {
	for window := 1; window < 20; window++ {
		for size := 1; size < 22; size++ {
			o := out(t, window, size)
			for n := range 3 {
				wantPut(t, o, rep("x", 15), n)
			}
			sent := []int{0, 0, 0}
			for n := 0; ; n++ {
				f, ok := o.Send(n)
				if !ok {
					break
				}
				sent[f.Call] += len(f.Text)
				if len(f.Text) == 0 || len(f.Text) > size || sent[f.Call] > window {
					t.Fatalf("NewOut(%d, %d): of call %d come %d, in all %d", window, size, f.Call, len(f.Text), sent[f.Call])
				}
			}
			wantWays(t, o, sent...)
			if !slices.Equal(sent, slices.Repeat([]int{min(window, 15)}, 3)) {
				t.Errorf("NewOut(%d, %d): %v bytes are sent", window, size, sent)
			}
		}
	}
}

// P16.1: the bytes of frames.
func TestEncode(t *testing.T) {
	for _, x := range []struct {
		f    api.Frame
		want string
	}{
		{api.Frame{}, "\x00\x00\x00\x00"}, {last(0, 0, ""), "\x00\x00\x00\x01"}, {frame(1, 2, "ab"), "\x01\x02\x02ab\x00"}, {last(3, 200, "x"), "\x03\xc8\x01\x01x\x01"},
		{last(127, 128, "\x00\xff"), "\x7f\x80\x01\x02\x00\xff\x01"}, {frame(63, 16384, rep("x", 128)), "\x3f\x80\x80\x01\x80\x01" + rep("x", 128) + "\x00"},
		{frame(math.MaxInt, math.MaxInt, ""), rep("\xff", 8) + "\x7f" + rep("\xff", 8) + "\x7f\x00\x00"},
		{last(0, 0, rep("x", mostBytes)), "\x00\x00\x80\x80\x04" + rep("x", mostBytes) + "\x01"}, {last(0, 0, rep("x", mostBytes+1)), "\x00\x00\x81\x80\x04" + rep("x", mostBytes+1) + "\x01"},
		// a number below 0
		{frame(-1, 0, ""), ""}, {last(0, -1, "a"), ""}, {frame(-1, -1, "\x00\x00"), ""}, {last(-1, 5, "a"), ""}, {frame(math.MinInt, 1, "a"), ""}, {frame(1, math.MinInt, "a"), ""}, {frame(-1<<32, 0, "a"), ""},
	} {
		if got := mux.Encode(x.f); got != x.want {
			t.Errorf("Encode(%.60q) is %.60x, not %.60x", fmt.Sprint(x.f), got, x.want)
		}
	}
}

// checkDecode asks for what these bytes tell, and holds P16.4 against it.
func checkDecode(t *testing.T, s string) {
	t.Helper()
	got, e := mux.Decode(s)
	want, err := slowDecode(s)
	if got != want || e != err {
		t.Fatalf("Decode(%.80x) is %.80q, %d, not %.80q, %d", s, fmt.Sprint(got), e, fmt.Sprint(want), err)
	}
	if e == api.OK && mux.Encode(got) != s {
		t.Fatalf("%.80x is read as %.80q, and written as %.80x", s, fmt.Sprint(got), mux.Encode(got))
	}
}

// P16.1: bytes that are no frame's.
func TestDecodeRefuses(t *testing.T) {
	for _, s := range []string{
		"", "\x00", "\x00\x00", "\x00\x00\x00", "\x80", "\x00\x00\x00\x00\x00", "\x00\x00\x00\x01\x01", "\x01\x02\x02ab", "\x01\x02\x02a\x00", "\x01\x02\x03ab\x00", "\x01\x02\x01ab\x00",
		// flags that are none
		"\x00\x00\x00\x02", "\x00\x00\x00\xff", "\x00\x00\x00\x80\x00", "\x00\x00\x00\x81\x00",
		// numbers in another way, or too great
		"\x80\x00\x00\x00\x00", "\x00\x80\x00\x00\x00", "\x00\x00\x80\x00\x00", "\x00\x00\x81\x00a\x00", rep("\xff", 9) + "\x00\x00\x00\x00", rep("\x80", 9) + "\x01\x00\x00\x00", "\x00" + rep("\xff", 9) + "\x01\x00\x00",
		// texts that are too long, or not there
		"\x00\x00\x81\x80\x04" + rep("x", mostBytes+1) + "\x01", "\x00\x00\x80\x80\x08" + rep("x", 2*mostBytes) + "\x00", "\x00\x00\x80\x80\x04" + rep("x", mostBytes), "\x00\x00" + rep("\xff", 8) + "\x7f\x00", "\x00\x00" + rep("\xff", 8) + "\x7f" + rep("x", 100),
	} {
		if f, e := mux.Decode(s); f != (api.Frame{}) || e != api.ErrCall {
			t.Errorf("Decode(%.60x) is %.60q, %d", s, fmt.Sprint(f), e)
		}
		checkDecode(t, s)
	}
}

// someNumbers are those at which another byte is begun, and the greatest.
func someNumbers() []int {
	return []int{0, 1, 63, 64, 127, 128, 255, 256, 16383, 16384, 65535, 65536, 1<<31 - 1, 1 << 31, 1 << 32, 1<<56 - 1, 1 << 56, 1 << 62, math.MaxInt}
}

// P16.4: each frame is read as it was written.
func TestReadsBack(t *testing.T) {
	for _, call := range someNumbers() {
		for _, at := range someNumbers() {
			for _, text := range []string{"", "a", "\x00", "\x01", "\xff\x80", rep("\x00", 127), rep("\x01", 128), rep("x", 300)} {
				for _, f := range []api.Frame{frame(call, at, text), last(call, at, text)} {
					s := mux.Encode(f)
					if got, e := mux.Decode(s); got != f || e != api.OK || s != slowEncode(f) {
						t.Fatalf("%.80q is written as %.80x, and read as %.80q, %d", fmt.Sprint(f), s, fmt.Sprint(got), e)
					}
				}
			}
		}
	}
	for _, n := range []int{16383, 16384, mostBytes - 1, mostBytes} {
		f := last(63, n, anyBytes(rand.New(rand.NewSource(int64(n))), n))
		if got, e := mux.Decode(mux.Encode(f)); got != f || e != api.OK {
			t.Errorf("a frame of %d bytes is read with %d, %d", n, len(got.Text), e)
		}
	}
}

// P16.1, P16.4: each short text.
func TestEachShortText(t *testing.T) {
	elements := []string{"\x00", "\x01", "\x02", "\x7f", "\x80", "\xff"}
	texts := []string{""}
	for range 6 {
		for _, s := range texts {
			checkDecode(t, s)
		}
		var next []string
		for _, s := range texts {
			for _, e := range elements {
				next = append(next, s+e)
			}
		}
		texts = next
	}
	for a := range 256 {
		for b := range 256 {
			checkDecode(t, "\x05"+string([]byte{byte(a), byte(b)})+"x\x01")
			checkDecode(t, string([]byte{byte(a), 0, byte(b)})+"\x01\x00")
			checkDecode(t, "\x80\x01\x00"+string([]byte{byte(a), byte(b)}))
		}
	}
}

// P16.1, P16.4: frames' bytes that are cut, lengthened, or turned.
func TestSpoiltBytes(t *testing.T) {
	dice := rand.New(rand.NewSource(165))
	right := 0
	for range 3000 {
		f := api.Frame{Call: dice.Intn(300), At: dice.Intn(1 << dice.Intn(40)), Text: anyBytes(dice, dice.Intn(1+dice.Intn(200))), Last: dice.Intn(2) > 0}
		s := mux.Encode(f)
		for n := range len(s) {
			if _, e := mux.Decode(s[:n]); e != api.ErrCall {
				t.Fatalf("%.80x is a frame, and so is its beginning of %d bytes", s, n)
			}
		}
		checkDecode(t, s)
		checkDecode(t, s+anyBytes(dice, 1+dice.Intn(3)))
		for range 10 {
			b := []byte(s)
			b[dice.Intn(1+dice.Intn(len(b)))] ^= byte(1 + dice.Intn(255))
			checkDecode(t, string(b))
			if _, e := mux.Decode(string(b)); e == api.OK {
				right++
			}
		}
	}
	if right < 1000 {
		t.Errorf("just %d of those that are turned are right", right)
	}
}

// R4: a list that is answered is its own, and what is done to it changes neither the receiver nor another answer.
func TestDoneIsNew(t *testing.T) {
	i := mux.NewIn()
	for _, call := range []int{4, 1, 7} {
		wantTake(t, i, last(call, 0, "a"), 1)
	}
	first, second := i.Done(), i.Done()
	for n := range first[:cap(first)] {
		first[:cap(first)][n] = -5
	}
	if !slices.Equal(second, []int{4, 1, 7}) {
		t.Errorf("one list is changed with the other to %v", second)
	}
	wantDone(t, i, 4, 1, 7)
	wantTake(t, i, last(2, 0, ""), 0)
	clear(second[:cap(second)])
	wantDone(t, i, 4, 1, 7, 2)
}

// R7: two senders, and two receivers, know nothing of one another.
func TestApart(t *testing.T) {
	o, other := out(t, 2, 2), out(t, 5, 3)
	wantPut(t, o, "abc", 0)
	wantLeft(t, other, 0)
	wantPut(t, other, "xyz", 0)
	wantPut(t, other, "", 1)
	wantSend(t, o, 0, frame(0, 0, "ab"))
	wantWays(t, other, 0)
	wantSend(t, other, 0, last(0, 0, "xyz"))
	wantAck(t, other, 0, 3, api.OK)
	wantWays(t, o, 2)
	wantLeft(t, o, 1)
	i, another := mux.NewIn(), mux.NewIn()
	wantTake(t, i, frame(0, 0, "ab"), 2)
	wantText(t, another, 0, "", false)
	wantTake(t, another, last(0, 0, "x"), 1)
	wantText(t, i, 0, "ab", false)
	wantDone(t, i)
	wantDone(t, another, 0)
}

// apart tells whether two texts share no byte of memory.
func apart(a, b string) bool {
	from, to := uintptr(unsafe.Pointer(unsafe.StringData(a))), uintptr(unsafe.Pointer(unsafe.StringData(b)))
	return from+uintptr(len(a)) <= to || to+uintptr(len(b)) <= from
}

// R4: texts that are answered are new memory as well, so that a piece that is kept doesn't keep the whole.
func TestTextsAreNew(t *testing.T) {
	text := rep("ab", 100)
	o := out(t, 200, 50)
	wantPut(t, o, text, 0)
	f, _ := o.Send(0)
	if !apart(f.Text, text) {
		t.Error("a frame is made of the text's own bytes")
	}
	s := mux.Encode(f)
	came, _ := mux.Decode(s)
	if !apart(s, f.Text) || !apart(came.Text, s) {
		t.Error("a frame's bytes and its text share memory")
	}
	i := mux.NewIn()
	wantTake(t, i, f, 50)
	if got, _ := i.Text(0); !apart(got, f.Text) {
		t.Error("what has come is made of the frame's own bytes")
	}
}
