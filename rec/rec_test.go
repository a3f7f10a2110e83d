package rec_test

import (
	"hash/crc32"
	"math/rand"
	"slices"
	"strings"
	"testing"

	"hawser/api"
	"hawser/rec"
)

// rep is s, n times.
func rep(s string, n int) string { return strings.Repeat(s, n) }

// anyBytes is a text of n bytes of any kind.
func anyBytes(dice *rand.Rand, n int) string {
	all := make([]byte, n)
	for i := range all {
		all[i] = byte(dice.Intn(256))
	}
	return string(all)
}

// turned is s with another byte at a place.
func turned(s string, at int, b byte) string { return s[:at] + string([]byte{b}) + s[at+1:] }

// somePayloads are texts of each short length, of those at which another byte of the length is begun, of the greatest ones, and texts that are records themselves.
func somePayloads() []string {
	dice := rand.New(rand.NewSource(5))
	all := []string{"", "a", "ab", "\x00", "\xff", "\x00\x00\x00\x00", "é世", "a\xffb", slowPack(""), slowPack("a"), slowJoin("a", "", "bc")}
	for n := range 20 {
		all = append(all, rep("\x00", n), rep("\xff", n), anyBytes(dice, n))
	}
	for _, n := range []int{127, 128, 255, 256, 257, 65535, 65536, 65537, mostBytes - 1, mostBytes} {
		all = append(all, rep("\x00", n), anyBytes(dice, n))
	}
	return all
}

// tooLong are payloads that no record has.
func tooLong() []string {
	return []string{rep("a", mostBytes+1), rep("\x00", mostBytes+256), rep("x", 2*mostBytes), rep("x", 1<<24)}
}

// P5.1: Pack, byte by byte.
func TestPack(t *testing.T) {
	for _, x := range []struct{ payload, want string }{
		{"", "\x00\x00\x00\x00\x21\x44\xdf\x1c"},
		{"\x00", "\x00\x00\x00\x01\xdf\x39\xc6\x5c\x00"},
		{"a", "\x00\x00\x00\x01\xe5\x8c\x97\x92a"},
	} {
		if got, e := rec.Pack(x.payload); got != x.want || e != api.OK {
			t.Errorf("Pack(%q) is %x, %d", x.payload, got, e)
		}
	}
	long := rep("x", 0x012345)
	got, e := rec.Pack(long)
	if e != api.OK || len(got) != 8+len(long) || got[:4] != "\x00\x01\x23\x45" || got[8:] != long {
		t.Errorf("of %d bytes Pack is %.40x, %d", len(long), got, e)
	}
	greatest := rep("x", mostBytes)
	if got, e := rec.Pack(greatest); e != api.OK || len(got) != 8+mostBytes || got[:4] != "\x00\x10\x00\x00" || got[8:] != greatest {
		t.Errorf("of the greatest payload Pack is %.40x, %d", got, e)
	}
}

// P5.1: Pack of many payloads, and that Next and One read it.
func TestPackAsSlow(t *testing.T) {
	for _, p := range somePayloads() {
		record, e := rec.Pack(p)
		if e != api.OK || record != slowPack(p) {
			t.Errorf("Pack of %d bytes %.20q is %.40x, %d", len(p), p, record, e)
		}
		if got, e := rec.One(record); got != p || e != api.OK {
			t.Errorf("One of the record of %d bytes %.20q is %.40q, %d", len(p), p, got, e)
		}
		for _, behind := range []string{"", "\x00", "behind", record} {
			if got, rest, e := rec.Next(record + behind); got != p || rest != behind || e != api.OK {
				t.Errorf("Next of the record of %d bytes %.20q is %.40q, %.40q, %d", len(p), p, got, rest, e)
			}
		}
	}
}

// P5.1: what is too long is refused, and nothing is answered beside it.
func TestTooLong(t *testing.T) {
	for _, p := range tooLong() {
		if got, e := rec.Pack(p); got != "" || e != api.ErrMore {
			t.Errorf("Pack of %d bytes is %.40x, %d", len(p), got, e)
		}
		for _, list := range [][]string{{p}, {p, "a"}, {"a", p}, {"a", "", p, "b"}, {p, p}} {
			if got, e := rec.Join(list...); got != "" || e != api.ErrMore {
				t.Errorf("Join with one of %d bytes is %.40x, %d", len(p), got, e)
			}
		}
		// A record that would be right, had it been allowed.
		checkRefused(t, slowPack(p), api.ErrMore)
	}
}

// checkRefused asks Next, One and All of a text that begins with no record.
func checkRefused(t *testing.T, s string, want api.Errno) {
	t.Helper()
	if payload, behind, e := rec.Next(s); payload != "" || behind != "" || e != want {
		t.Errorf("Next of %d bytes %.20x is %.40q, %.40q, %d, not %d", len(s), s, payload, behind, e, want)
	}
	if payload, e := rec.One(s); payload != "" || e != want {
		t.Errorf("One of %d bytes %.20x is %.40q, %d, not %d", len(s), s, payload, e, want)
	}
	if s == "" {
		return
	}
	if list, at, e := rec.All(s); len(list) != 0 || at != 0 || e != want {
		t.Errorf("All of %d bytes %.20x is %.40q, %d, %d, not %d", len(s), s, list, at, e, want)
	}
	ahead := slowJoin("ahead", "")
	if list, at, e := rec.All(ahead + s); !slices.Equal(list, []string{"ahead", ""}) || at != len(ahead) || e != want {
		t.Errorf("All of two records and %d bytes %.20x is %.80q, %d, %d, not %d", len(s), s, list, at, e, want)
	}
}

// P5.1: which error is told of what begins with no record, and that the first one of the chapter's is.
func TestRefused(t *testing.T) {
	greatest := slowPack(rep("x", mostBytes))
	for _, x := range []struct {
		s    string
		want api.Errno
	}{
		// fewer than 8 bytes, whatever they tell
		{"", api.ErrCut}, {"\x00", api.ErrCut}, {rep("\x00", 7), api.ErrCut}, {rep("\xff", 4), api.ErrCut}, {rep("\xff", 7), api.ErrCut}, {slowPack("")[:7], api.ErrCut},
		// a length above the greatest, whatever follows
		{rep("\xff", 8), api.ErrMore}, {"\x00\x10\x00\x01" + rep("\x00", 4), api.ErrMore}, {"\x00\x10\x00\x01" + rep("\x00", mostBytes+5), api.ErrMore},
		{"\x00\x11\x00\x00\x00\x00\x00\x00", api.ErrMore}, {"\x01\x00\x00\x00\x00\x00\x00\x00", api.ErrMore}, {"\x7f\xff\xff\xff\x00\x00\x00\x00", api.ErrMore},
		{"\x80\x00\x00\x00\x00\x00\x00\x00", api.ErrMore}, {"\x80\x00\x00\x01\xe5\x8c\x97\x92a", api.ErrMore}, {"\xff\xff\xff\xf8\x00\x00\x00\x00", api.ErrMore}, {"\xff\xff\xff\xff\x00\x00\x00\x00abc", api.ErrMore},
		// fewer bytes than the length, whatever the sum
		{"\x00\x00\x00\x01\x00\x00\x00\x00", api.ErrCut}, {"\x00\x00\x00\x01\xe5\x8c\x97\x92", api.ErrCut}, {"\x00\x00\x00\x05\x00\x00\x00\x00abcd", api.ErrCut}, {"\x00\x10\x00\x00\x00\x00\x00\x00", api.ErrCut},
		{greatest[:len(greatest)-1], api.ErrCut}, {greatest[:9], api.ErrCut}, {slowPack("abc")[:10], api.ErrCut}, {"\x00\x00\x01\x00\x00\x00\x00\x00" + rep("a", 255), api.ErrCut},
		// another sum
		{rep("\x00", 8), api.ErrSum}, {"\x00\x00\x00\x01\xe5\x8c\x97\x92b", api.ErrSum}, {"\x00\x00\x00\x01\xe5\x8c\x97\x93a", api.ErrSum}, {"\x00\x00\x00\x01\x92\x97\x8c\xe5a", api.ErrSum},
		{"\x00\x10\x00\x00\x00\x00\x00\x00" + rep("x", mostBytes), api.ErrSum}, {"\x00\x00\x00\x04\x00\x00\x00\x00abcdefgh", api.ErrSum},
		// the sum of the payload alone, and that of the length alone
		{"\x00\x00\x00\x01\xe8\xb7\xbe\x43a", api.ErrSum}, {"\x00\x00\x00\x01\x56\x43\xef\x8aa", api.ErrSum},
		// the length's lowest byte first
		{"\x01\x00\x00\x00\xe5\x8c\x97\x92a", api.ErrMore},
	} {
		checkRefused(t, x.s, x.want)
	}
}

// P5.1: One refuses what stands behind a record, but tells the record's own error first.
func TestOne(t *testing.T) {
	for _, x := range []struct {
		s, payload string
		want       api.Errno
	}{
		{slowPack(""), "", api.OK}, {slowPack("a"), "a", api.OK}, {slowPack(slowPack("a")), slowPack("a"), api.OK},
		{slowPack("") + "\x00", "", api.ErrMore}, {slowPack("a") + "b", "", api.ErrMore}, {slowJoin("a", ""), "", api.ErrMore}, {slowJoin("", ""), "", api.ErrMore}, {slowPack("a") + rep("\xff", 8), "", api.ErrMore},
		{turned(slowPack("a"), 8, 'b') + "c", "", api.ErrSum}, {"\x00" + slowPack("a"), "", api.ErrSum}, {"\xff" + slowPack("a"), "", api.ErrMore}, {"", "", api.ErrCut},
	} {
		if payload, e := rec.One(x.s); payload != x.payload || e != x.want {
			t.Errorf("One(%x) is %q, %d", x.s, payload, e)
		}
	}
}

// P5.1: All tells what stands ahead of the first that is no record, its place, and why.
func TestAll(t *testing.T) {
	two := slowJoin("a", "bc") // 9 and 10 bytes
	for _, x := range []struct {
		s    string
		list []string
		at   int
		want api.Errno
	}{
		{"", nil, 0, api.OK}, {slowPack(""), []string{""}, 8, api.OK}, {slowJoin("", "", ""), []string{"", "", ""}, 24, api.OK}, {two, []string{"a", "bc"}, 19, api.OK},
		{slowPack("a") + "\x00", []string{"a"}, 9, api.ErrCut}, {two + rep("\x00", 7), []string{"a", "bc"}, 19, api.ErrCut}, {two + rep("\x00", 8), []string{"a", "bc"}, 19, api.ErrSum}, {two + rep("\xff", 8), []string{"a", "bc"}, 19, api.ErrMore},
		{two[:18], []string{"a"}, 9, api.ErrCut}, {two[:9], []string{"a"}, 9, api.OK}, {two[:8], nil, 0, api.ErrCut}, {two[1:], nil, 0, api.ErrCut},
		// what stands behind a fault isn't told, be it a record
		{"\x00" + two, nil, 0, api.ErrSum}, {slowPack("a") + turned(slowPack("bc"), 9, 'd') + slowPack("e"), []string{"a"}, 9, api.ErrSum}, {turned(two, 4, 0), nil, 0, api.ErrSum}, {turned(two, 9, 1), []string{"a"}, 9, api.ErrMore},
		{slowPack("") + "\x00" + slowPack(""), []string{""}, 8, api.ErrSum},
	} {
		if list, at, e := rec.All(x.s); !slices.Equal(list, x.list) || at != x.at || e != x.want {
			t.Errorf("All(%x) is %q, %d, %d", x.s, list, at, e)
		}
	}
}

// P5.1: Join of none, of one and of more, told one by one.
func TestJoin(t *testing.T) {
	none, e := rec.Join()
	one, e1 := rec.Join("a")
	three, e3 := rec.Join("a", "", "bc")
	if none != "" || e != api.OK || one != slowPack("a") || e1 != api.OK || three != slowPack("a")+slowPack("")+slowPack("bc") || e3 != api.OK {
		t.Errorf("Join is %x, %d; %x, %d; %x, %d", none, e, one, e1, three, e3)
	}
	if empty, e := rec.Join([]string{}...); empty != "" || e != api.OK {
		t.Errorf("Join of an empty list is %x, %d", empty, e)
	}
}

// checkBothWays tells where All of Join isn't the payloads, or Join of All isn't the text up to the place.
func checkBothWays(t *testing.T, payloads ...string) {
	t.Helper()
	joined, e := rec.Join(payloads...)
	if e != api.OK || joined != slowJoin(payloads...) {
		t.Fatalf("Join(%.80q) is %.80x, %d", payloads, joined, e)
	}
	if list, at, e := rec.All(joined); !slices.Equal(list, payloads) || at != len(joined) || e != api.OK {
		t.Fatalf("All of Join(%.80q) is %.80q, %d, %d", payloads, list, at, e)
	}
}

// checkAnyText holds the calls against the slow ones, and Join of what All gives against the text.
func checkAnyText(t *testing.T, s string) {
	t.Helper()
	payload, behind, e := rec.Next(s)
	if p, b, want := slowNext(s); payload != p || behind != b || e != want {
		t.Fatalf("Next(%.80x) is %.40q, %.40q, %d", s, payload, behind, e)
	}
	payload, e = rec.One(s)
	if p, want := slowOne(s); payload != p || e != want {
		t.Fatalf("One(%.80x) is %.40q, %d", s, payload, e)
	}
	list, at, e := rec.All(s)
	if l, a, want := slowAll(s); !slices.Equal(list, l) || at != a || e != want {
		t.Fatalf("All(%.80x) is %.40q, %d, %d", s, list, at, e)
	}
	if again, e := rec.Join(list...); again != s[:at] || e != api.OK {
		t.Fatalf("All(%.80x) is %.40q up to %d, and Join of that is %.80x, %d", s, list, at, again, e)
	}
}

// P5.2: payloads of all lengths, and lists of all lengths.
func TestBothWays(t *testing.T) {
	checkBothWays(t)
	for _, p := range somePayloads() {
		checkBothWays(t, p)
		checkBothWays(t, "", p, p, "a")
	}
	dice := rand.New(rand.NewSource(52))
	for n := range 300 {
		var list []string
		for range n {
			list = append(list, anyBytes(dice, dice.Intn(20)))
		}
		checkBothWays(t, list...)
	}
	checkBothWays(t, make([]string, 100000)...)
}

// P5.1, P5.2: all texts of up to 9 bytes about the edges of a length.
func TestShortTexts(t *testing.T) {
	for n := range 10 {
		for _, first := range []string{"\x00\x00\x00\x00", "\x00\x00\x00\x01", "\x00\x00\x00\x02", "\x00\x10\x00\x00", "\x00\x10\x00\x01", "\xff\xff\xff\xff"} {
			for _, rest := range []string{"\x21\x44\xdf\x1ca", "\xe5\x8c\x97\x92a", "\x00\x00\x00\x00\x00"} {
				checkAnyText(t, (first + rest)[:n])
			}
		}
	}
}

// P5.1, P5.2: records and what is none, in any order, cut anywhere, with a byte turned anywhere.
func TestMixed(t *testing.T) {
	dice := rand.New(rand.NewSource(51))
	parts := []string{
		slowPack(""), slowPack("a"), slowPack("bc"), slowPack("a\x00"), slowPack(slowPack("x")), slowPack(rep("y", 300)), slowJoin("", "z"),
		"\x00", "\xff", "\x00\x00\x00\x00", "\x00\x00\x00\x01", "\x00\x10\x00\x01", rep("\x00", 8), rep("\xff", 8),
	}
	for range 20000 {
		s := ""
		for range dice.Intn(7) {
			s += parts[min(dice.Intn(len(parts)), dice.Intn(len(parts)))]
		}
		checkAnyText(t, s)
		if s == "" {
			continue
		}
		at := dice.Intn(len(s))
		checkAnyText(t, s[:at])
		checkAnyText(t, s[at:])
		checkAnyText(t, turned(s, at, byte(dice.Intn(256))))
	}
}

// checkTurned asks One of a record one byte of which is another one.
func checkTurned(t *testing.T, record string, at int, b byte) {
	if record[at] == b {
		return
	}
	if payload, e := rec.One(turned(record, at, b)); payload != "" || e == api.OK {
		t.Fatalf("with the byte %d %02x One of %.80x is %.40q, %d", at, b, record, payload, e)
	}
}

// P5.3: every other byte at every place of a short record, and some of longer ones.
func TestOneByteIsTold(t *testing.T) {
	dice := rand.New(rand.NewSource(53))
	for _, p := range []string{"", "a", "\x00", "\xff", "abc", rep("\x00", 40), rep("\xff", 40), anyBytes(dice, 300), slowJoin("a", "b")} {
		record, _ := rec.Pack(p)
		for at := range len(record) {
			for b := range 256 {
				checkTurned(t, record, at, byte(b))
			}
		}
	}
	for _, n := range []int{65535, 65536, mostBytes - 1, mostBytes} {
		record, _ := rec.Pack(anyBytes(dice, n))
		for at := range 8 {
			checkTurned(t, record, at, record[at]^1)
			checkTurned(t, record, at, record[at]^0x80)
		}
		for range 20 {
			checkTurned(t, record, dice.Intn(len(record)), byte(dice.Intn(256)))
		}
		checkTurned(t, record, len(record)-1, record[len(record)-1]+1)
	}
}

// P5.3: with a shorter length what Next takes may have the sum that is told; One refuses it for what stands behind.
func TestShorterRecordWithin(t *testing.T) {
	for _, within := range []string{"", "a", "abc", rep("x", 200)} {
		whole := byte(len(within) + 4)
		short := slowPack(within)
		told := crc32.ChecksumIEEE([]byte(short[:4] + within))
		payload := within + forced("\x00\x00\x00"+string([]byte{whole})+within, told)
		record, e := rec.Pack(payload)
		if e != api.OK || record[4:8] != short[4:8] {
			t.Fatalf("the record %x, %d has not the sum of %x", record, e, short)
		}
		changed := turned(record, 3, byte(len(within)))
		if got, behind, e := rec.Next(changed); got != within || behind != payload[len(within):] || e != api.OK {
			t.Errorf("Next(%x) is %q, %q, %d", changed, got, behind, e)
		}
		if got, e := rec.One(changed); got != "" || e != api.ErrMore {
			t.Errorf("One(%x) is %q, %d", changed, got, e)
		}
		checkAnyText(t, changed)
	}
}

// R4: a list that is handed in stays as it was, and so does the room behind it.
func TestJoinChangesNothing(t *testing.T) {
	room := []string{"a", "", "bc", "behind", "more"}
	for n := range 4 {
		rec.Join(room[:n]...)
		if !slices.Equal(room, []string{"a", "", "bc", "behind", "more"}) {
			t.Errorf("Join of %d has changed %q", n, room)
		}
	}
}

// R4, R7: each list that All answers is its own, and what is done to one changes no other.
func TestAllAnswersNewLists(t *testing.T) {
	s := slowJoin("a", "b", "c") + "\xff"
	first, _, _ := rec.All(s)
	second, _, _ := rec.All(s)
	first = append(first[:1], "x", "y", "z")
	third, at, e := rec.All(s)
	if want := []string{"a", "b", "c"}; !slices.Equal(second, want) || !slices.Equal(third, want) || at != 27 || e != api.ErrCut {
		t.Errorf("with one list changed to %q the others are %q and %q, %d, %d", first, second, third, at, e)
	}
}
