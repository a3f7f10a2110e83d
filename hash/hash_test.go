package hash_test

import (
	"math"
	"math/rand"
	"slices"
	"strings"
	"testing"

	"hawser/hash"
)

// rep is s, n times.
func rep(s string, n int) string { return strings.Repeat(s, n) }

// anyBytes is a text of n bytes of any kind.
func anyBytes(dice *rand.Rand, n int) string {
	all := make([]byte, n)
	for i := range all {
		all[i] = byte(dice.Intn(256))
	}
	return string(all)
}

// someTexts are texts of each length up to that of some blocks, of lengths about which sums of 16 bits wrap, and of each byte.
func someTexts() []string {
	dice := rand.New(rand.NewSource(4))
	var all []string
	for n := range 400 {
		all = append(all, rep("\x00", n), rep("\xff", n), anyBytes(dice, n))
	}
	for _, n := range []int{8191, 8192, 8193, 65535, 65536, 65537, 70000, 131071, 131072, 200001} {
		all = append(all, rep("\x00", n), rep("\xff", n), anyBytes(dice, n))
	}
	for b := range 256 {
		all = append(all, string([]byte{byte(b)}), string([]byte{0, byte(b), 0}))
	}
	return append(all, "é世", "a\xffb", "\xed\xa0\x80", rep("é", 70))
}

// P4.1: Sum, by the standard's own examples.
func TestSum(t *testing.T) {
	for _, x := range []struct{ s, want string }{
		{"", "e3b0c44298fc1c149afbf4c8996fb92427ae41e4649b934ca495991b7852b855"},
		{"abc", "ba7816bf8f01cfea414140de5dae2223b00361a396177a9cb410ff61f20015ad"},
		{"abcdbcdecdefdefgefghfghighijhijkijkljklmklmnlmnomnopnopq", "248d6a61d20638b8e5c026930c3e6039a33ce45964ff2167f6ecedd419db06c1"},
		{"abcdefghbcdefghicdefghijdefghijkefghijklfghijklmghijklmnhijklmnoijklmnopjklmnopqklmnopqrlmnopqrsmnopqrstnopqrstu", "cf5b16a778af8380036ce59e7b0492370b249b11e8f07a51afac45037afee9d1"},
		{rep("a", 1000000), "cdc76e5c9914fb9281a1c7e284d73e67f1809a48a497200e046d39ccc7112cd0"},
	} {
		if got := hash.Hex(hash.Sum(x.s)); got != x.want {
			t.Errorf("Sum(%.40q) is %s", x.s, got)
		}
	}
}

// P4.1: Sum answers 32 bytes, of any text, and the same another time.
func TestSumHasOneForm(t *testing.T) {
	seen := map[string]string{}
	for _, s := range someTexts() {
		sum := hash.Sum(s)
		if len(sum) != 32 || hash.Sum(s) != sum {
			t.Errorf("Sum(%.40q) is %x", s, sum)
		}
		if other, ok := seen[sum]; ok && other != s {
			t.Errorf("Sum is one of %.40q and of %.40q", s, other)
		}
		seen[sum] = s
	}
}

// P4.1: Weak.
func TestWeak(t *testing.T) {
	for _, x := range []struct {
		s    string
		a, b uint32
	}{
		{"", 0, 0}, {"\x00", 0, 0}, {"\x00\x00", 0, 0}, {"a", 97, 97}, {"ab", 195, 292}, {"ba", 195, 293}, {"bc", 197, 295}, {"abc", 294, 586},
		{"\x00a", 97, 97}, {"a\x00", 97, 194}, {"\xff", 255, 255}, {"\xff\xff", 510, 765}, {"\x80\x01", 129, 257},
		// past 65535: 257 bytes 255 are 65535, one more 65790
		{rep("\xff", 257), 65535, 33153 * 255 % 65536}, {rep("\xff", 258), 65790 - 65536, 33411 * 255 % 65536},
		// a weight of 65536 counts nothing, one of 65537 counts 1
		{"a" + rep("\x00", 65535), 97, 0}, {"a" + rep("\x00", 65536), 97, 97}, {"\x01" + rep("\x00", 65534), 1, 65535},
	} {
		if got := hash.Weak(x.s); got != x.a+65536*x.b {
			t.Errorf("Weak(%.40q) is %d + 65536 * %d", x.s, got%65536, got/65536)
		}
	}
}

// P4.1: Roll.
func TestRoll(t *testing.T) {
	for _, x := range []struct {
		w       uint32
		n       int
		out, in byte
		a, b    uint32
	}{
		{hash.Weak("ab"), 2, 'a', 'c', 197, 295}, {hash.Weak("a"), 1, 'a', 'b', 98, 98}, {hash.Weak("aaa"), 3, 'a', 'a', 291, 582}, {0, 0, 0, 0, 0, 0},
		// of a sum that isn't one of n bytes
		{0, 0, 0, 5, 5, 5}, {0, 0, 5, 0, 65531, 65531}, {0, 1, 5, 0, 65531, 65526}, {0, 2, 5, 5, 0, 65526}, {1 + 65536*2, 3, 4, 5, 2, 65528},
		{math.MaxUint32, 0, 0, 0, 65535, 65534}, {math.MaxUint32, 0, 0, 1, 0, 65535}, {math.MaxUint32, 0, 0, 255, 254, 253}, {65535, 0, 0, 1, 0, 0},
		// of numbers that no window has
		{0, -1, 1, 1, 0, 1}, {0, -2, 3, 0, 65533, 3}, {0, 65536, 7, 7, 0, 0}, {0, 65537, 7, 7, 0, 65529}, {0, math.MaxInt, 1, 1, 0, 1}, {0, math.MinInt, 255, 255, 0, 0}, {0, math.MinInt + 1, 1, 1, 0, 65535},
		{0, math.MaxInt, 255, 0, 65281, 0}, {0, 1 << 32, 9, 9, 0, 0}, {0, 1<<32 + 1, 9, 9, 0, 65527},
	} {
		if got := hash.Roll(x.w, x.n, x.out, x.in); got != x.a+65536*x.b {
			t.Errorf("Roll(%d, %d, %d, %d) is %d + 65536 * %d", x.w, x.n, x.out, x.in, got%65536, got/65536)
		}
	}
}

// P4.1: Crc.
func TestCrc(t *testing.T) {
	for _, x := range []struct {
		s    string
		want uint32
	}{
		{"", 0}, {"123456789", 0xcbf43926}, {"\x00", 0xd202ef8d}, {"\xff", 0xff000000}, {"a", 0xe8b7be43}, {"abc", 0x352441c2},
		{rep("\x00", 4), 0x2144df1c}, {rep("\xff", 4), 0xffffffff}, {rep("\x00", 32), 0x190a55ad}, {rep("\xff", 32), 0xff6cab0b},
		{"The quick brown fox jumps over the lazy dog", 0x414fa339},
	} {
		if got := hash.Crc(x.s); got != x.want {
			t.Errorf("Crc(%q) is %08x", x.s, got)
		}
	}
}

// P4.1: Hex.
func TestHex(t *testing.T) {
	for _, x := range []struct{ s, want string }{
		{"", ""}, {"\x00", "00"}, {"\x09", "09"}, {"\x0a", "0a"}, {"\x10", "10"}, {"\x7f", "7f"}, {"\x80", "80"}, {"\x9a", "9a"}, {"\xa9", "a9"}, {"\xff", "ff"},
		{"\x01\x23\x45\x67\x89\xab\xcd\xef", "0123456789abcdef"}, {"abc", "616263"}, {"é", "c3a9"}, {"\x00\x00", "0000"}, {rep("\xfe", 70000), rep("fe", 70000)},
	} {
		if got := hash.Hex(x.s); got != x.want {
			t.Errorf("Hex(%.40q) is %.40q", x.s, got)
		}
	}
}

// P4.1: Same.
func TestSame(t *testing.T) {
	long := rep("x", 70000)
	for _, x := range []struct {
		sums []string
		want bool
	}{
		{nil, true}, {[]string{}, true}, {[]string{""}, true}, {[]string{"a"}, true}, {[]string{"", ""}, true}, {[]string{"a", "a"}, true}, {[]string{"a", "a", "a", "a"}, true},
		{[]string{"a", "b"}, false}, {[]string{"a", ""}, false}, {[]string{"", "a"}, false}, {[]string{"a", "aa"}, false}, {[]string{"a", "A"}, false}, {[]string{"", "\x00"}, false},
		{[]string{"b", "a", "a"}, false}, {[]string{"a", "b", "a"}, false}, {[]string{"a", "a", "b"}, false}, {[]string{"a", "b", "b", "a"}, false}, {[]string{"a", "b", "c"}, false},
		{[]string{long + "a", long + "a"}, true}, {[]string{long + "a", long + "b"}, false}, {[]string{"a" + long, "b" + long}, false},
		{[]string{hash.Sum("a"), hash.Sum("a"), hash.Sum("b")}, false}, {[]string{hash.Sum("a"), hash.Sum("a"), hash.Sum("a")}, true},
	} {
		if got := hash.Same(x.sums...); got != x.want {
			t.Errorf("Same(%.80q) is %v", x.sums, got)
		}
	}
	if !hash.Same() || !hash.Same("a") || !hash.Same("a", "a") || hash.Same("a", "a", "b") {
		t.Error("Same of texts that are told one by one")
	}
}

// R4: a list that is handed in stays as it was, and so does the room behind it.
func TestSameChangesNothing(t *testing.T) {
	room := []string{"a", "b", "a", "behind", "more"}
	for n := range 4 {
		hash.Same(room[:n]...)
		if !slices.Equal(room, []string{"a", "b", "a", "behind", "more"}) {
			t.Errorf("Same of %d has changed %q", n, room)
		}
	}
}

// P4.2: each window's sum is got from the one ahead of it.
func TestRollGoesAlong(t *testing.T) {
	dice := rand.New(rand.NewSource(42))
	for _, s := range []string{"abc", "hello, world", rep("\x00", 30), rep("\xff", 300), rep("ab\xff", 200), rep("é世", 90), anyBytes(dice, 700)} {
		for n := 1; n <= len(s); n++ {
			rolled(t, s, n)
		}
	}
	long := anyBytes(dice, 140000)
	for _, n := range []int{1, 700, 8192} {
		rolled(t, long[:20000], n)
	}
	for _, n := range []int{65535, 65536, 65537, 131072} {
		rolled(t, long[:n+300], n)
		rolled(t, rep("\xff", n+300), n)
	}
}

// rolled goes along s with a window of n bytes.
func rolled(t *testing.T, s string, n int) {
	w := hash.Weak(s[:n])
	for at := 1; at+n <= len(s); at++ {
		w = hash.Roll(w, n, s[at-1], s[at+n-1])
		if want := hash.Weak(s[at : at+n]); w != want {
			t.Fatalf("along %.40q a window of %d has at %d the sum %d, not %d", s, n, at, w, want)
		}
	}
}

// differ tells of texts whose check sums are the same.
func differ(t *testing.T, s, other string) {
	if s != other && hash.Crc(s) == hash.Crc(other) {
		t.Fatalf("%.80q and %.80q have one check sum", s, other)
	}
}

// P4.3: one byte.
func TestCrcTellsByte(t *testing.T) {
	dice := rand.New(rand.NewSource(43))
	for _, s := range []string{"a", "\x00", "\xff\xff", "123456789", rep("\x00", 70), rep("\xff", 70), anyBytes(dice, 130)} {
		for at := range len(s) {
			for b := range 256 {
				differ(t, s, s[:at]+string([]byte{byte(b)})+s[at+1:])
			}
		}
	}
	long := anyBytes(dice, 65536)
	for range 200 {
		at := dice.Intn(len(long))
		differ(t, long, long[:at]+anyBytes(dice, 1)+long[at+1:])
	}
}

// P4.3: up to four bytes side by side, wherever they stand.
func TestCrcTellsFourBytes(t *testing.T) {
	dice := rand.New(rand.NewSource(44))
	for _, s := range []string{"ab", "abcd", rep("\x00", 40), rep("\xff", 40), anyBytes(dice, 100)} {
		for at := range len(s) {
			for range 300 {
				wide := min(1+dice.Intn(4), len(s)-at)
				differ(t, s, s[:at]+anyBytes(dice, wide)+s[at+wide:])
			}
		}
	}
	long := anyBytes(dice, 65536)
	for range 200 {
		at := dice.Intn(len(long) - 4)
		differ(t, long, long[:at]+anyBytes(dice, 4)+long[at+4:])
	}
}

// P4.3: all texts of two bytes are told apart, and so are those of four bytes in which one bit or two are 1.
func TestCrcTellsAllShortOnes(t *testing.T) {
	seen := map[uint32]bool{}
	for x := range 1 << 16 {
		sum := hash.Crc(string([]byte{byte(x >> 8), byte(x)}))
		if seen[sum] {
			t.Fatalf("the check sum of %04x is another's too", x)
		}
		seen[sum] = true
	}
	clear(seen)
	for x := range 32 {
		for y := range x + 1 {
			pair := uint32(1<<x | 1<<y)
			sum := hash.Crc(string([]byte{byte(pair >> 24), byte(pair >> 16), byte(pair >> 8), byte(pair)}))
			if seen[sum] {
				t.Fatalf("the check sum of %08x is another's too", pair)
			}
			seen[sum] = true
		}
	}
}
