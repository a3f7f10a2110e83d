package code_test

import (
	"math"
	"math/rand"
	"slices"
	"strings"
	"testing"

	"hawser/api"
	"hawser/code"
)

// rep is s, n times.
func rep(s string, n int) string { return strings.Repeat(s, n) }

// texts are all texts of at most most of these elements.
func texts(most int, elements ...string) []string {
	all := []string{""}
	last := all
	for range most {
		var next []string
		for _, s := range last {
			for _, e := range elements {
				next = append(next, s+e)
			}
		}
		all = append(all, next...)
		last = next
	}
	return all
}

// numbers are those at which another byte is begun, or another bit, and some more.
func numbers() []int {
	all := []int{0, 1, 2, 100, 1000, math.MaxInt}
	for bit := range 63 {
		all = append(all, 1<<bit-1, 1<<bit, 1<<bit+1)
	}
	return all
}

// someTexts are texts of the lengths at which another byte of the length is begun, and of any bytes.
func someTexts() []string {
	all := []string{"", "a", "\x00", "\x80", "\xff\xfe", "é世", "\x02ab", "a\x00b"}
	for _, n := range []int{126, 127, 128, 129, 255, 256, 16383, 16384, 16385, 65536, 70000} {
		all = append(all, rep("x", n), rep("\x80", n))
	}
	return all
}

// P3.1: Num writes seven bits a byte, the lowest first, in as few bytes as can be.
func TestNumWrites(t *testing.T) {
	for _, x := range []struct {
		n    int
		want string
	}{
		{0, "\x00"}, {1, "\x01"}, {127, "\x7f"}, {128, "\x80\x01"}, {129, "\x81\x01"}, {255, "\xff\x01"}, {256, "\x80\x02"}, {300, "\xac\x02"},
		{16383, "\xff\x7f"}, {16384, "\x80\x80\x01"}, {1<<21 - 1, "\xff\xff\x7f"}, {1 << 21, "\x80\x80\x80\x01"}, {1 << 32, "\x80\x80\x80\x80\x10"},
		{1<<56 - 1, rep("\xff", 7) + "\x7f"}, {1 << 56, rep("\x80", 8) + "\x01"}, {1 << 62, rep("\x80", 8) + "\x40"}, {math.MaxInt, rep("\xff", 8) + "\x7f"},
		{-1, ""}, {-128, ""}, {math.MinInt, ""},
	} {
		if got := code.Num(x.n); got != x.want {
			t.Errorf("Num(%d) is %x", x.n, got)
		}
	}
}

// P3.1: Num is told by its bytes alone, at each number's edge.
func TestNumIsSumOfBytes(t *testing.T) {
	for _, n := range numbers() {
		s := code.Num(n)
		sum := 0
		for i := range len(s) {
			if goesOn := s[i] >= 128; goesOn != (i < len(s)-1) {
				t.Errorf("Num(%d) is %x: byte %d", n, s, i)
			}
			sum += int(s[i]&127) << (7 * i)
		}
		if sum != n || len(s) > 1 && s[len(s)-1] == 0 {
			t.Errorf("Num(%d) is %x", n, s)
		}
	}
}

// P3.1: Text, Flag, All.
func TestOthersWrite(t *testing.T) {
	for _, x := range []struct{ got, want string }{
		{code.Text(""), "\x00"}, {code.Text("ab"), "\x02ab"}, {code.Text("\x00"), "\x01\x00"}, {code.Text("é"), "\x02é"}, {code.Text("\xff"), "\x01\xff"},
		{code.Text(rep("x", 127)), "\x7f" + rep("x", 127)}, {code.Text(rep("x", 128)), "\x80\x01" + rep("x", 128)}, {code.Text(rep("\x80", 70000)), "\xf0\xa2\x04" + rep("\x80", 70000)},
		{code.Flag(false), "\x00"}, {code.Flag(true), "\x01"},
		{code.All(), ""}, {code.All(""), ""}, {code.All("a"), "a"}, {code.All("a", "b"), "ab"}, {code.All("", "ab", "", "\x00", "c"), "ab\x00c"}, {code.All([]string{"x", "y", "z"}...), "xyz"},
	} {
		if x.got != x.want {
			t.Errorf("%.40x is written, not %.40x", x.got, x.want)
		}
	}
}

// one is a reader that has been asked once.
func one(s string, c call) answer { return c.ask(code.New(s)) }

// P3.1: a reader's Num.
func TestReaderNum(t *testing.T) {
	for _, x := range []struct {
		s       string
		n, left int
		end     api.Errno
	}{
		{"\x00", 0, 0, api.OK}, {"\x01", 1, 0, api.OK}, {"\x7f", 127, 0, api.OK}, {"\x80\x01", 128, 0, api.OK}, {"\x00\x00", 0, 1, api.ErrMore}, {"\x05abc", 5, 3, api.ErrMore},
		{rep("\xff", 8) + "\x7f", math.MaxInt, 0, api.OK}, {rep("\x80", 8) + "\x01", 1 << 56, 0, api.OK}, {rep("\xff", 8) + "\x7f\x00", math.MaxInt, 1, api.ErrMore},
		// too short
		{"", 0, 0, api.ErrShort}, {"\x80", 0, 1, api.ErrShort}, {"\xff\xff", 0, 2, api.ErrShort}, {rep("\x80", 8), 0, 8, api.ErrShort}, {rep("\xff", 8), 0, 8, api.ErrShort},
		// not ended by nine
		{rep("\x80", 9), 0, 9, api.ErrForm}, {rep("\xff", 9), 0, 9, api.ErrForm}, {rep("\xff", 9) + "\x00", 0, 10, api.ErrForm}, {rep("\x80", 9) + "\x01", 0, 10, api.ErrForm}, {rep("\xff", 30), 0, 30, api.ErrForm},
		// a last byte 0 behind another one
		{"\x80\x00", 0, 2, api.ErrForm}, {"\x81\x00", 0, 2, api.ErrForm}, {"\x80\x80\x00", 0, 3, api.ErrForm}, {"\xff\x00\x01", 0, 3, api.ErrForm}, {rep("\x80", 8) + "\x00", 0, 9, api.ErrForm}, {rep("\xff", 8) + "\x00", 0, 9, api.ErrForm},
		// a byte 128 in the middle is no fault
		{"\x80\x80\x01", 16384, 0, api.OK},
	} {
		if got := one(x.s, call{name: "Num"}); got != (answer{n: x.n, left: x.left, end: x.end}) {
			t.Errorf("of %x Num is %#v", x.s, got)
		}
	}
}

// P3.1: a reader's Text.
func TestReaderText(t *testing.T) {
	for _, x := range []struct {
		s    string
		most int
		text string
		left int
		end  api.Errno
	}{
		{"\x00", 0, "", 0, api.OK}, {"\x00", 9, "", 0, api.OK}, {"\x02ab", 2, "ab", 0, api.OK}, {"\x02ab", math.MaxInt, "ab", 0, api.OK}, {"\x01abc", 1, "a", 2, api.ErrMore}, {"\x02\x80\x00", 5, "\x80\x00", 0, api.OK},
		{"\x80\x01" + rep("x", 129), 128, rep("x", 128), 1, api.ErrMore},
		// the length's own faults come first
		{"", 9, "", 0, api.ErrShort}, {"", -1, "", 0, api.ErrShort}, {"\x80", 0, "", 1, api.ErrShort}, {"\x80\x00", -1, "", 2, api.ErrForm}, {rep("\xff", 9), 0, "", 9, api.ErrForm}, {rep("\xff", 8), -1, "", 8, api.ErrShort},
		// then what is above most, then what isn't there
		{"\x02ab", 1, "", 3, api.ErrMore}, {"\x05a", 4, "", 2, api.ErrMore}, {"\x05a", 9, "", 2, api.ErrShort}, {"\x05a", 5, "", 2, api.ErrShort}, {"\x00", -1, "", 1, api.ErrMore}, {"\x00a", math.MinInt, "", 2, api.ErrMore},
		{"\x01", 1, "", 1, api.ErrShort}, {"\x80\x01" + rep("x", 127), 128, "", 129, api.ErrShort}, {"\x80\x01" + rep("x", 127), 127, "", 129, api.ErrMore},
		{rep("\xff", 8) + "\x7fab", math.MaxInt, "", 11, api.ErrShort}, {rep("\xff", 8) + "\x7fab", math.MaxInt - 1, "", 11, api.ErrMore},
	} {
		if got := one(x.s, call{name: "Text", most: x.most}); got != (answer{text: x.text, left: x.left, end: x.end}) {
			t.Errorf("of %.40x Text(%d) is %#.80v", x.s, x.most, got)
		}
	}
}

// P3.1: a reader's Flag.
func TestReaderFlag(t *testing.T) {
	for _, x := range []struct {
		s    string
		flag bool
		left int
		end  api.Errno
	}{
		{"\x00", false, 0, api.OK}, {"\x01", true, 0, api.OK}, {"\x01\x00", true, 1, api.ErrMore}, {"\x00\x07", false, 1, api.ErrMore},
		{"", false, 0, api.ErrShort}, {"\x02", false, 1, api.ErrForm}, {"\x80\x00", false, 2, api.ErrForm}, {"\x81\x00", false, 2, api.ErrForm}, {"\xff", false, 1, api.ErrForm}, {"1", false, 1, api.ErrForm},
	} {
		if got := one(x.s, call{name: "Flag"}); got != (answer{flag: x.flag, left: x.left, end: x.end}) {
			t.Errorf("of %x Flag is %#v", x.s, got)
		}
	}
}

// P3.1: a reader's Count.
func TestReaderCount(t *testing.T) {
	for _, x := range []struct {
		s           string
		most, least int
		n, left     int
		end         api.Errno
	}{
		{"\x00", 0, 1, 0, 0, api.OK}, {"\x00", 0, math.MaxInt, 0, 0, api.OK}, {"\x03abc", 3, 1, 3, 3, api.ErrMore}, {"\x03abc", 9, 1, 3, 3, api.ErrMore}, {"\x02abcd", 2, 2, 2, 4, api.ErrMore}, {"\x02abcde", 2, 2, 2, 5, api.ErrMore}, {"\x01abc", 1, 3, 1, 3, api.ErrMore},
		// a least below 1 counts as 1
		{"\x03abc", 3, 0, 3, 3, api.ErrMore}, {"\x03abc", 3, -5, 3, 3, api.ErrMore}, {"\x03abc", 3, math.MinInt, 3, 3, api.ErrMore}, {"\x04abc", 9, 0, 0, 4, api.ErrShort}, {"\x04abc", 9, -1, 0, 4, api.ErrShort}, {"\x04abc", 9, math.MinInt, 0, 4, api.ErrShort},
		// the number's own faults come first
		{"", -1, 1, 0, 0, api.ErrShort}, {"\x80", -1, 1, 0, 1, api.ErrShort}, {"\x80\x00", -1, 9, 0, 2, api.ErrForm}, {rep("\xff", 9), 0, 1, 0, 9, api.ErrForm},
		// then what is above most, then what can't follow
		{"\x04abc", 3, 1, 0, 4, api.ErrMore}, {"\x03abc", 2, 1, 0, 4, api.ErrMore}, {"\x00", -1, 1, 0, 1, api.ErrMore}, {"\x00", math.MinInt, 1, 0, 1, api.ErrMore},
		{"\x04abc", 4, 1, 0, 4, api.ErrShort}, {"\x02abc", 2, 2, 0, 4, api.ErrShort}, {"\x01abc", 1, 4, 0, 4, api.ErrShort}, {"\x01abc", 1, math.MaxInt, 0, 4, api.ErrShort}, {"\x01", 1, 1, 0, 1, api.ErrShort},
		// what is left is told behind the number
		{"\x80\x01" + rep("x", 128), 128, 1, 128, 128, api.ErrMore}, {"\x80\x01" + rep("x", 127), 128, 1, 0, 129, api.ErrShort}, {"\x80\x01" + rep("x", 255), 128, 2, 0, 257, api.ErrShort}, {"\x80\x01" + rep("x", 256), 128, 2, 128, 256, api.ErrMore},
		// no product wraps
		{rep("\xff", 8) + "\x7fab", math.MaxInt, math.MaxInt, 0, 11, api.ErrShort}, {rep("\x80", 8) + "\x40ab", math.MaxInt, 4, 0, 11, api.ErrShort}, {rep("\xff", 8) + "\x7fab", math.MaxInt, 2, 0, 11, api.ErrShort},
	} {
		if got := one(x.s, call{"Count", x.most, x.least}); got != (answer{n: x.n, left: x.left, end: x.end}) {
			t.Errorf("of %.40x Count(%d, %d) is %#v", x.s, x.most, x.least, got)
		}
	}
}

// allCalls are calls with arguments at the edges of short texts.
func allCalls() []call {
	return []call{
		{"Num", 0, 0}, {"Flag", 0, 0}, {"Text", 0, 0}, {"Text", 1, 0}, {"Text", 2, 0}, {"Text", math.MaxInt, 0}, {"Text", -1, 0},
		{"Count", 1, 1}, {"Count", 2, 0}, {"Count", 2, 2}, {"Count", math.MaxInt, -1}, {"Count", math.MaxInt, math.MaxInt}, {"Count", -1, 1},
	}
}

// checkCalls asks a reader, and the slow one, and tells where they differ, or where what was read isn't written so.
func checkCalls(t *testing.T, s string, calls ...call) {
	r, slow := code.New(s), &slowReader{text: s}
	var written []string
	for i, c := range calls {
		got, want := c.ask(r), c.askSlowly(slow)
		if got != want {
			t.Fatalf("of %.80x, %v is %#.80v, not %#.80v", s, calls[:i+1], got, want)
		}
		if slow.fault != api.OK {
			continue
		}
		written = append(written, c.write(got))
		if code.All(written...) != s[:len(s)-got.left] {
			t.Fatalf("of %.80x, %v has read what is written as %.80x", s, calls[:i+1], code.All(written...))
		}
	}
}

// P3.1, P3.3: of every short text, in any order of calls.
func TestEveryShortText(t *testing.T) {
	calls := allCalls()
	for _, s := range texts(4, "\x00", "\x01", "\x02", "\x03", "\x80", "\x81") {
		for _, c1 := range calls {
			for _, c2 := range calls {
				for _, c3 := range calls {
					checkCalls(t, s, c1, c2, c3)
				}
			}
		}
	}
}

// P3.1, P3.3: of one or two bytes, any of them.
func TestEveryByte(t *testing.T) {
	for a := range 256 {
		for _, c := range allCalls() {
			checkCalls(t, string([]byte{byte(a)}), c, c)
			for b := range 256 {
				checkCalls(t, string([]byte{byte(a), byte(b)}), c, c)
				checkCalls(t, string([]byte{byte(a), byte(b), 1, 2, 1}), c, c)
			}
		}
	}
}

// P3.1: of numbers of about nine bytes.
func TestLongNumbers(t *testing.T) {
	for n := range 12 {
		for _, goesOn := range []string{"\x80", "\x81", "\xff"} {
			for _, last := range []string{"", "\x00", "\x01", "\x40", "\x7f"} {
				for _, behind := range []string{"", "\x00", "\x01", "\x80"} {
					for _, c := range allCalls() {
						checkCalls(t, rep(goesOn, n)+last+behind, c, call{name: "Num"})
					}
				}
			}
		}
	}
}

// P3.1, P3.3: of longer texts, the same ones each time.
func TestMixed(t *testing.T) {
	pick := rand.New(rand.NewSource(3))
	elements := []string{"\x00", "\x01", "\x02ab", "\x03a", "\x04\x00\x01\x80\xff", "\x80\x01" + rep("x", 128), "\xff\x7f", "\x80\x00", "\x80", "\x7f", rep("\xff", 8) + "\x7f"}
	calls := append(allCalls(), call{name: "Num"}, call{name: "Num"}, call{name: "Flag"}, call{name: "Text", most: 200}, call{name: "Text", most: 200}, call{"Count", 200, 1})
	for range 100000 {
		s := ""
		for range pick.Intn(8) {
			s += elements[pick.Intn(len(elements))]
		}
		var asked []call
		for range 1 + pick.Intn(10) {
			asked = append(asked, calls[pick.Intn(len(calls))])
		}
		checkCalls(t, s, asked...)
	}
}

// P3.2: what is written is read back, and nothing is left.
func TestReadsBack(t *testing.T) {
	var written []string
	for _, n := range numbers() {
		written = append(written, code.Num(n))
	}
	for _, s := range someTexts() {
		written = append(written, code.Text(s), code.Flag(true), code.Flag(false))
	}
	r := code.New(code.All(written...))
	left := len(code.All(written...))
	for _, n := range numbers() {
		left -= len(code.Num(n))
		if got := r.Num(); got != n || r.Left() != left {
			t.Fatalf("%d is read as %d, %d left", n, got, r.Left())
		}
	}
	for _, s := range someTexts() {
		left -= len(code.Text(s)) + 2
		if r.End() != api.ErrMore || r.Text(len(s)) != s || !r.Flag() || r.Flag() || r.Left() != left {
			t.Fatalf("a text of %d bytes isn't read, %d left", len(s), r.Left())
		}
	}
	if r.End() != api.OK || r.Left() != 0 {
		t.Errorf("End is %d, %d left", r.End(), r.Left())
	}
}

// P3.2: the same of mixed parts, in whatever order.
func TestReadsBackMixed(t *testing.T) {
	pick := rand.New(rand.NewSource(4))
	some, ns := someTexts(), numbers()
	for range 2000 {
		var parts []string
		var calls []call
		var want []answer
		for range pick.Intn(9) {
			switch s, n := some[pick.Intn(12)], ns[pick.Intn(len(ns))]; pick.Intn(4) {
			case 0:
				parts, calls, want = append(parts, code.Num(n)), append(calls, call{name: "Num"}), append(want, answer{n: n})
			case 1:
				parts, calls, want = append(parts, code.Text(s)), append(calls, call{name: "Text", most: len(s)}), append(want, answer{text: s})
			case 2:
				parts, calls, want = append(parts, code.Flag(true)), append(calls, call{name: "Flag"}), append(want, answer{flag: true})
			case 3:
				parts, calls, want = append(parts, code.Flag(false)), append(calls, call{name: "Flag"}), append(want, answer{})
			}
		}
		r := code.New(code.All(parts...))
		for i, c := range calls {
			want[i].left = len(code.All(parts[i+1:]...))
			if want[i].left > 0 {
				want[i].end = api.ErrMore
			}
			if got := c.ask(r); got != want[i] {
				t.Fatalf("of %.80x, %v is %#.80v", code.All(parts...), calls[:i+1], got)
			}
		}
		if r.End() != api.OK {
			t.Fatalf("of %.80x End is %d", code.All(parts...), r.End())
		}
	}
}

// P3.3: a number that is read is written as the bytes it was read of, whatever stands there.
func TestOneWay(t *testing.T) {
	seen := map[int]string{}
	for _, s := range texts(5, "\x00", "\x01", "\x40", "\x7f", "\x80", "\xc0", "\xff") {
		r := code.New(s)
		n := r.Num()
		if r.End() != api.OK {
			continue
		}
		if was, ok := seen[n]; ok {
			t.Fatalf("%d is read of %x and of %x", n, was, s)
		}
		seen[n] = s
		if code.Num(n) != s {
			t.Fatalf("%d is read of %x", n, s)
		}
	}
}

// P3.1: with a fault nothing is answered and nothing changes, whichever call has found it.
func TestFaultStays(t *testing.T) {
	for _, x := range []struct {
		s string
		c call
		e api.Errno
	}{
		{"\x01\x80\x00\x01", call{name: "Num"}, api.ErrForm}, {"\x01\x02\x01", call{name: "Flag"}, api.ErrForm}, {"\x01\x05\x01", call{name: "Text", most: 9}, api.ErrShort}, {"\x01\x01\x01", call{name: "Text"}, api.ErrMore}, {"\x01\x03\x01", call{"Count", 9, 1}, api.ErrShort}, {"\x01\x01\x01", call{"Count", 0, 1}, api.ErrMore},
	} {
		r := code.New(x.s)
		if !r.Flag() {
			t.Fatalf("of %x Flag is false", x.s)
		}
		stopped := answer{left: len(x.s) - 1, end: x.e}
		if got := x.c.ask(r); got != stopped {
			t.Errorf("of %x, %v is %#v", x.s, x.c, got)
		}
		for _, c := range allCalls() {
			if got := c.ask(r); got != stopped {
				t.Errorf("of %x, behind a fault %v is %#v", x.s, c, got)
			}
		}
	}
}

// P3.1: End and Left change nothing, and what End tells of bytes that are left is no fault.
func TestEndIsNoFault(t *testing.T) {
	r := code.New("\x03\x01\x01a")
	if r.End() != api.ErrMore || r.Left() != 4 || r.Num() != 3 || r.End() != api.ErrMore || !r.Flag() || r.End() != api.ErrMore || r.Text(1) != "a" || r.End() != api.OK || r.Left() != 0 || r.End() != api.OK {
		t.Error("End or Left is in the way")
	}
	if r.Flag() || r.End() != api.ErrShort || r.Left() != 0 {
		t.Error("behind the end")
	}
}

// P3.1: a nil reader has the fault ErrShort, and nothing left.
func TestNilReader(t *testing.T) {
	var r *code.Reader
	for _, c := range allCalls() {
		if got := c.ask(r); got != (answer{end: api.ErrShort}) {
			t.Errorf("of nil, %v is %#v", c, got)
		}
	}
}

// R7: readers of one text know nothing of one another.
func TestReadersApart(t *testing.T) {
	s := "\x01\x02ab"
	a, b := code.New(s), code.New(s)
	if a == nil || a == b || a.Num() != 1 || b.Left() != 4 || !b.Flag() || a.Flag() || a.End() != api.ErrForm || b.Text(2) != "ab" || b.End() != api.OK || a.Left() != 3 {
		t.Error("readers of one text")
	}
}

// R4: the list of parts is not changed, nor the room behind it.
func TestPartsStay(t *testing.T) {
	room := []string{"a", "b", "c", "behind"}
	if got := code.All(room[:2]...); got != "ab" || !slices.Equal(room, []string{"a", "b", "c", "behind"}) {
		t.Errorf("All is %q, and leaves %q", got, room)
	}
}
