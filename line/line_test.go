package line_test

import (
	"hash/crc32"
	"math"
	"math/rand"
	"slices"
	"strings"
	"testing"
	"unsafe"

	"hawser/api"
	"hawser/line"
)

// rep is s, n times.
func rep(s string, n int) string { return strings.Repeat(s, n) }

// anyBytes is a text of n bytes of any kind.
func anyBytes(dice *rand.Rand, n int) string {
	all := make([]byte, n)
	for i := range all {
		all[i] = byte(dice.Intn(256))
	}
	return string(all)
}

// turned is s with another byte at a place.
func turned(s string, at int, b byte) string { return s[:at] + string([]byte{b}) + s[at+1:] }

// somePayloads are texts of each short length, of those at which another byte of the length is begun, of the greatest ones, and texts that are frames themselves.
func somePayloads() []string {
	dice := rand.New(rand.NewSource(15))
	all := []string{"", "a", "ab", "\x00", "\xff", "\x00\x00\x00\x00", "é世", "a\xffb", slowPack(""), slowPack("a"), slowPack("a", "", "bc")}
	for n := range 20 {
		all = append(all, rep("\x00", n), rep("\xff", n), anyBytes(dice, n))
	}
	for _, n := range []int{127, 128, 255, 256, 257, 65535, 65536, 65537, mostBytes - 1, mostBytes} {
		all = append(all, rep("\x00", n), anyBytes(dice, n))
	}
	return all
}

// someNumbers are numbers of messages, with those at which another byte is begun.
func someNumbers() []int {
	return []int{0, 1, 2, 127, 128, 255, 256, 257, 65535, 65536, 1<<24 - 1, 1 << 24, 0x01020304, 1<<31 - 1, 1 << 31, 1<<32 - 2, 1<<32 - 1}
}

// noNumbers are ints that no message has for its number.
func noNumbers() []int {
	return []int{-1, -2, -256, -1 << 31, -1<<32 + 1, -1 << 32, -1<<32 - 1, math.MinInt, math.MinInt + 1, 1 << 32, 1<<32 + 1, 1 << 40, 1 << 62, math.MaxInt - 1, math.MaxInt}
}

// tooLong are payloads that no message has.
func tooLong() []string {
	return []string{rep("a", mostBytes+1), rep("\x00", mostBytes+256), rep("x", 2*mostBytes), rep("x", 1<<24)}
}

// checkMore asks for a message's frame.
func checkMore(t *testing.T, n int, payload, want string, err api.Errno) {
	t.Helper()
	if got, e := line.More(n, payload); got != want || e != err {
		t.Errorf("More(%d, %.20q of %d bytes) is %.40x of %d bytes, %d, not %.40x of %d bytes, %d", n, payload, len(payload), got, len(got), e, want, len(want), err)
	}
}

// checkPack asks for the frames of messages.
func checkPack(t *testing.T, want string, err api.Errno, payloads ...string) {
	t.Helper()
	if got, e := line.Pack(payloads...); got != want || e != err {
		t.Errorf("Pack(%.60q) is %.80x of %d bytes, %d, not %.80x of %d bytes, %d", payloads, got, len(got), e, want, len(want), err)
	}
}

// checkCarry asks for what comes over a line.
func checkCarry(t *testing.T, s string, f api.Fault, want string) {
	t.Helper()
	if got := line.Carry(s, f); got != want {
		t.Errorf("Carry(%.40q of %d bytes, %v) is %.40q of %d bytes, not %.40q of %d bytes", s, len(s), f, got, len(got), want, len(want))
	}
}

// checkRead asks for the messages with which s begins.
func checkRead(t *testing.T, s string, err api.Errno, want ...string) {
	t.Helper()
	if got, e := line.Read(s); !slices.Equal(got, want) || e != err {
		t.Errorf("Read(%.80x of %d bytes) is %.60q, %d, not %.60q, %d", s, len(s), got, e, want, err)
	}
}

// P15.1: the chapter's examples.
func TestExamples(t *testing.T) {
	s, e := line.Pack("a")
	if len(s) != 13 || e != api.OK {
		t.Fatalf("Pack(a) is %x, %d", s, e)
	}
	checkRead(t, line.Carry(s, api.Fault{Cut: 12}), api.ErrLink)
	checkRead(t, line.Carry(s, api.Fault{Cut: -1, Flip: 0, By: 1}), api.ErrLink)
	checkRead(t, line.Carry(s, api.Fault{Cut: 0}), api.OK)
}

// frames written out, byte by byte
const (
	empty0 = "\x00\x00\x00\x00\x21\x44\xdf\x1c\x21\x44\xdf\x1c"
	a0     = "\x00\x00\x00\x01\x56\x43\xef\x8a\xfc\x97\xa6\xd3a"
	empty1 = "\x00\x00\x00\x00\x21\x44\xdf\x1c\x56\x43\xef\x8a"
	bc1    = "\x00\x00\x00\x02\xcf\x4a\xbe\x30\x33\x70\xf2\x53bc"
	a256   = "\x00\x00\x00\x01\x56\x43\xef\x8a\xfd\x55\xcc\xe4a"
)

// P15.1: More, byte by byte.
func TestMore(t *testing.T) {
	checkMore(t, 0, "", empty0, api.OK)
	checkMore(t, 0, "a", a0, api.OK)
	checkMore(t, 1, "", empty1, api.OK)
	checkMore(t, 1, "bc", bc1, api.OK)
	checkMore(t, 256, "a", a256, api.OK)
	checkMore(t, 0x01020304, "a", "\x00\x00\x00\x01\x56\x43\xef\x8a\x0d\xd4\x3c\xb5a", api.OK)
	checkMore(t, 1<<31, "", "\x00\x00\x00\x00\x21\x44\xdf\x1c\xcc\x1d\x69\x27", api.OK)
	checkMore(t, 1<<32-1, "a", "\x00\x00\x00\x01\x56\x43\xef\x8a\xc5\x4a\xae\x31a", api.OK)
	for _, p := range somePayloads() {
		checkMore(t, 0, p, slowFrame(0, p), api.OK)
		checkMore(t, 1<<32-1, p, slowFrame(1<<32-1, p), api.OK)
	}
	for _, n := range someNumbers() {
		checkMore(t, n, "", slowFrame(uint32(n), ""), api.OK)
		checkMore(t, n, "abc", slowFrame(uint32(n), "abc"), api.OK)
	}
	long := slowFrame(5, rep("x", 0x012345))
	if long[:4] != "\x00\x01\x23\x45" {
		t.Fatalf("%.20x", long)
	}
	checkMore(t, 5, rep("x", 0x012345), long, api.OK)
}

// P15.1: Pack of none, of one and of more, told one by one or as a list.
func TestPack(t *testing.T) {
	checkPack(t, "", api.OK)
	checkPack(t, "", api.OK, []string{}...)
	checkPack(t, empty0, api.OK, "")
	checkPack(t, a0, api.OK, "a")
	checkPack(t, a0+bc1, api.OK, "a", "bc")
	checkPack(t, a0+empty1+slowFrame(2, "a"), api.OK, "a", "", "a")
	for _, p := range somePayloads() {
		checkPack(t, slowPack(p), api.OK, p)
		checkPack(t, slowPack("", p, p, "a"), api.OK, "", p, p, "a")
	}
	// The 257th message's number has a second byte.
	many := slices.Repeat([]string{"a"}, 300)
	checkPack(t, slowPack(many...), api.OK, many...)
	if s, _ := line.Pack(many...); s[256*13:257*13] != a256 {
		t.Errorf("the 257th frame is %x", s[256*13:257*13])
	}
	many = make([]string, 70000)
	checkPack(t, slowPack(many...), api.OK, many...)
}

// P15.1: what is too long, and what is no number, is refused, and nothing is answered beside it.
func TestTooMuch(t *testing.T) {
	for _, p := range tooLong() {
		for _, list := range [][]string{{p}, {p, "a"}, {"a", p}, {"a", "", p, "b"}, {p, p}} {
			checkPack(t, "", api.ErrMore, list...)
		}
		for _, n := range someNumbers() {
			checkMore(t, n, p, "", api.ErrMore)
		}
	}
	for _, n := range noNumbers() {
		for _, p := range []string{"", "a", rep("a", mostBytes), rep("a", mostBytes+1)} {
			checkMore(t, n, p, "", api.ErrMore)
		}
	}
}

// P15.1: Carry, written out.
func TestCarry(t *testing.T) {
	for _, x := range []struct {
		s    string
		f    api.Fault
		want string
	}{
		// the cut
		{"abc", api.Fault{Cut: -1}, "abc"}, {"abc", api.Fault{Cut: math.MinInt}, "abc"}, {"abc", api.Fault{}, ""}, {"abc", api.Fault{Cut: 1}, "a"}, {"abc", api.Fault{Cut: 2}, "ab"},
		{"abc", api.Fault{Cut: 3}, "abc"}, {"abc", api.Fault{Cut: 4}, "abc"}, {"abc", api.Fault{Cut: math.MaxInt}, "abc"},
		{"", api.Fault{}, ""}, {"", api.Fault{Cut: -1}, ""}, {"", api.Fault{Cut: 1, By: 1}, ""}, {"", api.Fault{Cut: -1, Flip: -1, By: 1}, ""},
		// the turned byte
		{"abc", api.Fault{Cut: -1, Flip: 0, By: 1}, "`bc"}, {"abc", api.Fault{Cut: -1, Flip: 1, By: 1}, "acc"}, {"abc", api.Fault{Cut: -1, Flip: 2, By: 0x80}, "ab\xe3"}, {"abc", api.Fault{Cut: -1, Flip: 2, By: 0xff}, "ab\x9c"},
		{"\x00\xff", api.Fault{Cut: -1, Flip: 0, By: 0xff}, "\xff\xff"}, {"\x00\xff", api.Fault{Cut: -1, Flip: 1, By: 0xff}, "\x00\x00"}, {"\x00\xff", api.Fault{Cut: -1, Flip: 1, By: 0x10}, "\x00\xef"}, {"\xaa", api.Fault{Cut: -1, By: 0x0f}, "\xa5"},
		{"é", api.Fault{Cut: -1, Flip: 1, By: 1}, "\xc3\xa8"},
		// none that is turned
		{"abc", api.Fault{Cut: -1, Flip: 1}, "abc"}, {"abc", api.Fault{Cut: -1, Flip: -1, By: 1}, "abc"}, {"abc", api.Fault{Cut: -1, Flip: math.MinInt, By: 1}, "abc"}, {"abc", api.Fault{Cut: -1, Flip: 3, By: 1}, "abc"}, {"abc", api.Fault{Cut: -1, Flip: math.MaxInt, By: 1}, "abc"},
		// both
		{"abc", api.Fault{Cut: 2, Flip: 0, By: 1}, "`b"}, {"abc", api.Fault{Cut: 2, Flip: 1, By: 1}, "ac"}, {"abc", api.Fault{Cut: 2, Flip: 2, By: 1}, "ab"}, {"abc", api.Fault{Cut: 1, Flip: 2, By: 1}, "a"}, {"abc", api.Fault{Cut: 0, Flip: 0, By: 1}, ""},
		{"abc", api.Fault{Cut: 9, Flip: 2, By: 1}, "abb"}, {"abc", api.Fault{Cut: 9, Flip: 5, By: 1}, "abc"}, {"abc", api.Fault{Cut: math.MaxInt, Flip: math.MaxInt, By: 1}, "abc"},
	} {
		checkCarry(t, x.s, x.f, x.want)
	}
}

// P15.1: Carry of any bytes, with the faults about their ends.
func TestCarryAsSlow(t *testing.T) {
	dice := rand.New(rand.NewSource(16))
	for n := range 12 {
		s := anyBytes(dice, n)
		for cut := -2; cut < n+3; cut++ {
			for flip := -2; flip < n+3; flip++ {
				for _, by := range []byte{0, 1, 0x80, 0xff, byte(dice.Intn(256))} {
					f := api.Fault{Cut: cut, Flip: flip, By: by}
					checkCarry(t, s, f, slowCarry(s, f))
				}
			}
		}
	}
	long := anyBytes(dice, 3*mostBytes)
	for range 5 {
		f := api.Fault{Cut: dice.Intn(len(long)), Flip: dice.Intn(len(long)), By: byte(dice.Intn(256))}
		checkCarry(t, long, f, slowCarry(long, f))
	}
}

// badFrame is as a frame, of which what is told may be wrong.
func badFrame(length, lengthSum, sum, payload string) string {
	return length + lengthSum + sum + payload
}

// lengthOnly is a frame's beginning with the right sum of its length, and with the sum of the empty message 0.
func lengthOnly(length string) string {
	return length + crcText(length) + empty0[8:12]
}

// crcText is a check sum in four bytes, the highest first.
func crcText(s string) string {
	n := crc32.ChecksumIEEE([]byte(s))
	return string([]byte{byte(n >> 24), byte(n >> 16), byte(n >> 8), byte(n)})
}

// P15.1: what is no frame, written out; nothing of it and of what stands behind it is told.
func TestReadRefuses(t *testing.T) {
	const length, lengthSum, sum = "\x00\x00\x00\x01", "\x56\x43\xef\x8a", "\xfc\x97\xa6\xd3"
	big := rep("x", mostBytes+1)
	for _, s := range []string{
		// too short
		"\x00", rep("\x00", 11), rep("\xff", 3), empty0[:11], a0[:1], a0[:4], a0[:8], a0[:12], bc1[:13],
		// a spoilt length, length's sum, sum, payload
		badFrame("\x00\x00\x00\x00", lengthSum, sum, "a"), badFrame("\x00\x00\x00\x02", lengthSum, sum, "ab"), badFrame("\x01\x00\x00\x00", lengthSum, sum, "a"),
		badFrame(length, "\x56\x43\xef\x8b", sum, "a"), badFrame(length, "\xd6\x43\xef\x8a", sum, "a"), badFrame(length, "\x8a\xef\x43\x56", sum, "a"), badFrame(length, rep("\x00", 4), sum, "a"), badFrame(length, sum, lengthSum, "a"),
		badFrame(length, lengthSum, "\xfc\x97\xa6\xd2", "a"), badFrame(length, lengthSum, "\x7c\x97\xa6\xd3", "a"), badFrame(length, lengthSum, "\xd3\xa6\x97\xfc", "a"), badFrame(length, lengthSum, rep("\x00", 4), "a"),
		badFrame(length, lengthSum, sum, "b"), badFrame(length, lengthSum, sum, "\x00"), badFrame(length, lengthSum, sum, ""),
		// the sum of the payload alone, with the number behind the payload, and with another number
		badFrame(length, lengthSum, "\xe8\xb7\xbe\x43", "a"), badFrame(length, lengthSum, crcText("a\x00\x00\x00\x00"), "a"), a256, slowFrame(1, "a"), slowFrame(1<<31, "a"), slowFrame(1<<32-1, ""), empty1, bc1,
		// without a length's sum, and with one of the lowest byte first
		length + sum + "a", "\x01\x00\x00\x00" + lengthSum + sum + "a",
		// lengths above the greatest, with right sums
		slowFrame(0, big), slowFrame(0, big+big), slowFrame(0, big)[:12], lengthOnly("\xff\xff\xff\xff"), lengthOnly("\x80\x00\x00\x00"), lengthOnly("\x80\x00\x00\x01") + "a", lengthOnly("\x7f\xff\xff\xff"), lengthOnly("\x00\x10\x00\x01"), lengthOnly("\xff\xff\xff\xf4"),
		// lengths that are right, but not so many bytes
		lengthOnly("\x00\x10\x00\x00"), lengthOnly("\x00\x00\x00\x05") + "abcd", slowFrame(0, rep("x", mostBytes))[:mostBytes+11],
	} {
		checkRead(t, s, api.ErrLink)
		if want, e := slowRead(s); len(want) != 0 || e != api.ErrLink {
			t.Errorf("slowRead(%.40x) is %.40q, %d", s, want, e)
		}
		checkRead(t, s+a0, api.ErrLink)
		// Right frames ahead of it are told: two, as some of these would be right behind one.
		checkRead(t, slowPack("ahead", "")+s, api.ErrLink, "ahead", "")
	}
}

// P15.1: Read of frames and of what stands behind them.
func TestRead(t *testing.T) {
	checkRead(t, "", api.OK)
	checkRead(t, empty0, api.OK, "")
	checkRead(t, a0, api.OK, "a")
	checkRead(t, a0+bc1, api.OK, "a", "bc")
	checkRead(t, a0+empty1, api.OK, "a", "")
	checkRead(t, a0+"\x00", api.ErrLink, "a")
	checkRead(t, a0+rep("\x00", 12), api.ErrLink, "a")
	checkRead(t, a0+bc1[:13], api.ErrLink, "a")
	checkRead(t, a0+bc1[:12], api.ErrLink, "a")
	// A message twice, one left out, two exchanged.
	checkRead(t, a0+a0, api.ErrLink, "a")
	checkRead(t, bc1+a0, api.ErrLink)
	checkRead(t, a0+bc1+bc1, api.ErrLink, "a", "bc")
	checkRead(t, a0+slowFrame(2, "bc"), api.ErrLink, "a")
	checkRead(t, a0+slowFrame(2, "bc")+bc1, api.ErrLink, "a")
	checkRead(t, empty0+empty0, api.ErrLink, "")
	// What stands behind a fault isn't told, be it a right frame.
	checkRead(t, "x"+a0, api.ErrLink)
	checkRead(t, a0+"x"+bc1, api.ErrLink, "a")
	checkRead(t, turned(a0, 12, 'b')+slowFrame(0, "c")+bc1, api.ErrLink)
	checkRead(t, a0+turned(bc1, 3, 1)+slowFrame(2, "c"), api.ErrLink, "a")
	for _, p := range somePayloads() {
		checkRead(t, slowPack(p), api.OK, p)
		checkRead(t, slowPack("", p, p), api.OK, "", p, p)
		checkRead(t, slowPack(p, "a")+"x", api.ErrLink, p, "a")
	}
	// Frames that More makes one by one are those of Pack.
	all := ""
	var list []string
	for n := range 300 {
		frame, _ := line.More(n, rep("m", n%5))
		all, list = all+frame, append(list, rep("m", n%5))
		checkRead(t, all, api.OK, list...)
	}
	checkRead(t, slowPack(make([]string, 70000)...), api.OK, make([]string, 70000)...)
}

// P15.1: frames and what is none, in any order, cut anywhere, with a byte turned anywhere.
func TestReadAsSlow(t *testing.T) {
	dice := rand.New(rand.NewSource(17))
	seen := map[int]int{}
	for range 40000 {
		s := ""
		for n := range dice.Intn(7) {
			switch dice.Intn(12) {
			case 0:
				s += slowFrame(uint32(dice.Intn(7)), "x")
			case 1:
				s += anyBytes(dice, dice.Intn(20))
			default:
				s += slowFrame(uint32(n), anyBytes(dice, dice.Intn(4)))
			}
		}
		f := api.Fault{Cut: dice.Intn(60) - 30, Flip: dice.Intn(150), By: byte(dice.Intn(256))}
		for _, s := range []string{s, slowCarry(s, f), slowCarry(s, api.Fault{Cut: -1, Flip: f.Flip, By: f.By})} {
			want, e := slowRead(s)
			checkRead(t, s, e, want...)
			seen[len(want)]++
			seen[-int(e)]++
		}
		if t.Failed() {
			return
		}
	}
	for _, kind := range []int{0, 1, 2, 3, 4, 5, 6, -int(api.ErrLink)} {
		if seen[kind] < 1000 {
			t.Errorf("%d: seen %d times", kind, seen[kind])
		}
	}
}

// checkComes carries messages, and sees that what is read is their beginning, as long as the fault lets it be, and that with OK fewer come only of a cut between two frames.
func checkComes(t *testing.T, payloads []string, sent string, f api.Fault) {
	t.Helper()
	carried := line.Carry(sent, f)
	got, e := line.Read(carried)
	n, err := slowComes(payloads, f)
	if e != err || !slices.Equal(got, payloads[:n]) {
		t.Fatalf("of %.60q with %v comes %.60q, %d, not %d of them, %d", payloads, f, got, e, n, err)
	}
	if e == api.OK && len(got) < len(payloads) && (f.Cut < 0 || sent[:f.Cut] != slowPack(payloads[:n]...)) {
		t.Fatalf("of %.60q with %v comes just %.60q, and OK", payloads, f, got)
	}
}

// P15.2, P15.3: short messages, with every other byte at every place, and every cut.
func TestEachFault(t *testing.T) {
	for _, payloads := range [][]string{nil, {""}, {"a"}, {"a", "bc"}, {"", "", ""}, {"\x00", "\xff\xff", ""}, {a0, "x"}} {
		sent, e := line.Pack(payloads...)
		if e != api.OK {
			t.Fatal(e)
		}
		checkComes(t, payloads, sent, api.Fault{Cut: -1})
		for cut := range len(sent) + 3 {
			checkComes(t, payloads, sent, api.Fault{Cut: cut, Flip: -1, By: 1})
		}
		for flip := range len(sent) + 1 {
			for by := range 256 {
				checkComes(t, payloads, sent, api.Fault{Cut: -1, Flip: flip, By: byte(by)})
				checkComes(t, payloads, sent, api.Fault{Cut: (flip*7 + by) % (len(sent) + 2), Flip: flip, By: byte(by)})
			}
		}
	}
}

// P15.2, P15.3: every cut with every place of a turned byte.
func TestBothFaults(t *testing.T) {
	payloads := []string{"abc", "", "\x00\x00", "d"}
	sent, _ := line.Pack(payloads...)
	for cut := -1; cut < len(sent)+2; cut++ {
		for flip := -1; flip < len(sent)+2; flip++ {
			for bit := range 8 {
				checkComes(t, payloads, sent, api.Fault{Cut: cut, Flip: flip, By: 1 << bit})
			}
		}
	}
}

// P15.2, P15.3: messages of any lengths, with any fault.
func TestAnyFault(t *testing.T) {
	dice := rand.New(rand.NewSource(18))
	seen := map[api.Errno]int{}
	for range 20000 {
		var payloads []string
		for range dice.Intn(8) {
			payloads = append(payloads, anyBytes(dice, dice.Intn(1+dice.Intn(300))))
		}
		sent, _ := line.Pack(payloads...)
		f := api.Fault{Cut: dice.Intn(2*len(sent)+2) - len(sent) - 1, Flip: dice.Intn(len(sent)+10) - 5, By: byte(dice.Intn(256))}
		if dice.Intn(4) == 0 {
			f.Cut = len(slowPack(payloads[:dice.Intn(len(payloads)+1)]...))
		}
		checkComes(t, payloads, sent, f)
		_, e := slowComes(payloads, f)
		seen[e]++
	}
	if seen[api.OK] < 1000 || seen[api.ErrLink] < 1000 {
		t.Errorf("seen %v", seen)
	}
	great := []string{"a", anyBytes(dice, mostBytes), rep("\x00", 300000), "b"}
	sent, _ := line.Pack(great...)
	for range 30 {
		checkComes(t, great, sent, api.Fault{Cut: dice.Intn(2*len(sent)) - len(sent), Flip: dice.Intn(len(sent)), By: byte(1 + dice.Intn(255))})
	}
	for at := 13; at < 26; at++ {
		checkComes(t, great, sent, api.Fault{Cut: -1, Flip: at, By: 1})
		checkComes(t, great, sent, api.Fault{Cut: at})
	}
	checkComes(t, great, sent, api.Fault{Cut: -1})
}

// P15.2: a spoilt length is told by its own sum, also where the sum of the message would be right of fewer bytes.
func TestSpoiltLength(t *testing.T) {
	for number := range 3 {
		for _, within := range []string{"", "a", "abc", rep("x", 200)} {
			ahead := string([]byte{0, 0, 0, byte(number)}) + within
			payload := within + forced(ahead, crc32.ChecksumIEEE([]byte(ahead)))
			payloads := append(slices.Repeat([]string{"ahead"}, number), payload)
			sent, _ := line.Pack(payloads...)
			from := 17 * number
			if sent[from+8:from+12] != crcText(ahead) {
				t.Fatalf("%q has another sum than %q", payload, within)
			}
			checkComes(t, payloads, sent, api.Fault{Cut: -1, Flip: from + 3, By: byte(len(payload)) ^ byte(len(within))})
			checkComes(t, payloads, sent, api.Fault{Cut: from + 12 + len(within), Flip: from + 3, By: byte(len(payload)) ^ byte(len(within))})
		}
	}
}

// R4: a list that is handed in stays as it was, and so does the room behind it.
func TestPackChangesNothing(t *testing.T) {
	room := []string{"a", "", "bc", "behind", "more"}
	for n := range 4 {
		line.Pack(room[:n]...)
		if !slices.Equal(room, []string{"a", "", "bc", "behind", "more"}) {
			t.Errorf("Pack of %d has changed %q", n, room)
		}
	}
}

// R4, R7: each list that Read answers is its own, and what is done to one changes no other.
func TestReadAnswersNewLists(t *testing.T) {
	s := slowPack("a", "b", "c") + "\xff"
	first, _ := line.Read(s)
	second, _ := line.Read(s)
	for i := range first[:cap(first)] {
		first[:cap(first)][i] = "x"
	}
	if want := []string{"a", "b", "c"}; !slices.Equal(second, want) {
		t.Errorf("with one list changed to %q the other is %q", first, second)
	}
	checkRead(t, s, api.ErrLink, "a", "b", "c")
}

// apart tells whether two texts share no byte of memory.
func apart(a, b string) bool {
	from, to := uintptr(unsafe.Pointer(unsafe.StringData(a))), uintptr(unsafe.Pointer(unsafe.StringData(b)))
	return from+uintptr(len(a)) <= to || to+uintptr(len(b)) <= from
}

// R4: texts that are answered are new memory as well, so that a payload that is kept doesn't keep what came with it.
func TestTextsAreNew(t *testing.T) {
	payload := rep("ab", 100)
	sent, _ := line.Pack(payload, "x")
	more, _ := line.More(0, payload)
	if !apart(sent, payload) || !apart(more, payload) {
		t.Error("a frame is made of the payload's own bytes")
	}
	for _, f := range []api.Fault{{Cut: -1}, {Cut: 100}, {Cut: -1, Flip: 3, By: 1}} {
		if !apart(line.Carry(sent, f), sent) {
			t.Errorf("what comes with %v is made of the bytes that were sent", f)
		}
	}
	came, _ := line.Read(sent)
	if !apart(came[0], sent) {
		t.Error("a payload is made of the bytes that came")
	}
}
