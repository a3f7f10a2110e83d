package delta_test

import (
	"fmt"
	"math"
	"math/rand"
	"slices"
	"strconv"
	"strings"
	"testing"
	"unsafe"

	"hawser/api"
	"hawser/delta"
)

// rep is s, n times.
func rep(s string, n int) string { return strings.Repeat(s, n) }

// anyText is a text of n of these bytes.
func anyText(dice *rand.Rand, letters string, n int) string {
	all := make([]byte, n)
	for i := range all {
		all[i] = letters[dice.Intn(len(letters))]
	}
	return string(all)
}

// anyBytes is a text of n bytes of any kind.
func anyBytes(dice *rand.Rand, n int) string {
	all := make([]byte, n)
	for i := range all {
		all[i] = byte(dice.Intn(256))
	}
	return string(all)
}

// text and copied are the two kinds of steps.
func text(s string) api.Op          { return api.Op{Text: s} }
func copied(from, count int) api.Op { return api.Op{From: from, Count: count} }

// checkSign asks for what is told of base's blocks.
func checkSign(t *testing.T, base string, size int, want []api.Block) {
	t.Helper()
	if got, e := delta.Sign(base, size); e != api.OK || !slices.Equal(got, want) {
		t.Errorf("Sign(%.40q of %d bytes, %d) is %.300q, %d", base, len(base), size, fmt.Sprint(got), e)
	}
}

// checkMake asks for the steps of data.
func checkMake(t *testing.T, data string, blocks []api.Block, size int, want ...api.Op) {
	t.Helper()
	if got, e := delta.Make(data, blocks, size); e != api.OK || !slices.Equal(got, want) {
		t.Errorf("Make(%.60q of %d bytes, %d blocks, %d) is %.300s, %d, not %.300s", data, len(data), len(blocks), size, shown(got), e, shown(want))
	}
}

// checkApply asks for what the steps tell.
func checkApply(t *testing.T, base string, size int, ops []api.Op, want string, err api.Errno) {
	t.Helper()
	if got, e := delta.Apply(base, size, ops); got != want || e != err {
		t.Errorf("Apply(%.40q of %d bytes, %d, %.300s) is %.60q of %d bytes, %d, not %.60q of %d bytes, %d", base, len(base), size, shown(ops), got, len(got), e, want, len(want), err)
	}
}

// shown is steps to be read.
func shown(ops []api.Op) string {
	all := ""
	for _, op := range ops[:min(20, len(ops))] {
		all += " " + strconv.Itoa(op.From) + "+" + strconv.Itoa(op.Count) + strconv.Quote(op.Text[:min(20, len(op.Text))])
	}
	return all
}

// P14.1: the chapter's examples.
func TestExamples(t *testing.T) {
	const base = "abcdab"
	blocks := slowSign(base, 4)
	checkSign(t, base, 4, []api.Block{slowTell("abcd"), slowTell("ab")})
	checkMake(t, "xabcdab", blocks, 4, text("x"), copied(0, 2))
	checkMake(t, "ab", blocks, 4, copied(1, 1))
	checkMake(t, "abx", blocks, 4, text("abx"))
	checkApply(t, base, 4, []api.Op{copied(1, 1), copied(0, 1)}, "ababcd", api.OK)
	checkApply(t, base, 4, []api.Op{copied(2, 1)}, "", api.ErrDelta)
}

// P14.1: what is told of blocks, written out.
func TestSign(t *testing.T) {
	ab := api.Block{Weak: 195 + 65536*292, Sum: "\xfb\x8e\x20\xfc\x2e\x4c\x3f\x24\x8c\x60\xc3\x9b\xd6\x52\xf3\xc1\x34\x72\x98\xbb\x97\x7b\x8b\x4d\x59\x03\xb8\x50\x55\x62\x06\x03", Len: 2}
	checkSign(t, "ab", 2, []api.Block{ab})
	checkSign(t, "ab", 3, []api.Block{ab})
	checkSign(t, "ab", api.MaxData, []api.Block{ab})
	checkSign(t, "abab", 2, []api.Block{ab, ab})
	checkSign(t, "ababa", 2, []api.Block{ab, ab, slowTell("a")})
	checkSign(t, "aba", 1, []api.Block{slowTell("a"), slowTell("b"), slowTell("a")})
	checkSign(t, "", 1, nil)
	checkSign(t, "", api.MaxData, nil)
	checkSign(t, "\x00", 5, []api.Block{slowTell("\x00")})
}

// P14.1: Sign of texts of all lengths about those of some blocks, and of texts longer than a file's.
func TestSignAsSlow(t *testing.T) {
	dice := rand.New(rand.NewSource(1))
	for size := 1; size < 12; size++ {
		for n := range 40 {
			base := anyBytes(dice, n)
			checkSign(t, base, size, slowSign(base, size))
		}
	}
	for _, n := range []int{65535, 65536, 65537, 200000} {
		for _, size := range []int{1, 700, 4096, 65535, 65536} {
			base := anyBytes(dice, n)
			checkSign(t, base, size, slowSign(base, size))
		}
	}
}

// P14.1: a size that may not be is told ahead of all else, and nothing with it.
func TestSizeRefused(t *testing.T) {
	wrong := []api.Op{{}, text(rep("x", 70000))}
	for _, size := range []int{0, -1, -4, api.MaxData + 1, math.MaxInt, math.MinInt} {
		for _, s := range []string{"", "a", "abcdab", rep("x", 70000)} {
			if blocks, e := delta.Sign(s, size); len(blocks) > 0 || e != api.ErrArg {
				t.Errorf("Sign with %d: %d blocks, %d", size, len(blocks), e)
			}
			for _, blocks := range [][]api.Block{nil, slowSign(s, 4), {{}}} {
				if ops, e := delta.Make(s, blocks, size); len(ops) > 0 || e != api.ErrArg {
					t.Errorf("Make with %d: %s, %d", size, shown(ops), e)
				}
			}
			for _, ops := range [][]api.Op{nil, {text("a")}, {copied(0, 1)}, wrong} {
				checkApply(t, s, size, ops, "", api.ErrArg)
			}
		}
	}
	for _, size := range []int{1, api.MaxData} {
		checkSign(t, "a", size, []api.Block{slowTell("a")})
		checkMake(t, "a", slowSign("a", size), size, copied(0, 1))
		checkApply(t, "a", size, []api.Op{copied(0, 1)}, "a", api.OK)
	}
}

// P14.1: the steps, written out.
func TestMake(t *testing.T) {
	checkMake(t, "", nil, 1)
	checkMake(t, "", slowSign("abcdab", 4), 4)
	checkMake(t, "abc", nil, 2, text("abc"))
	checkMake(t, "abc", nil, api.MaxData, text("abc"))
	// Copies are put together just where the blocks stand one behind the other.
	b := slowSign("abcdefgh", 2)
	checkMake(t, "abcdefgh", b, 2, copied(0, 4))
	checkMake(t, "cdef", b, 2, copied(1, 2))
	checkMake(t, "abef", b, 2, copied(0, 1), copied(2, 1))
	checkMake(t, "cdab", b, 2, copied(1, 1), copied(0, 1))
	checkMake(t, "abab", b, 2, copied(0, 1), copied(0, 1))
	checkMake(t, "abxcd", b, 2, copied(0, 1), text("x"), copied(1, 1))
	checkMake(t, "xabyefzzghw", b, 2, text("x"), copied(0, 1), text("y"), copied(2, 1), text("zz"), copied(3, 1), text("w"))
	// A text does not part copies of which one does not end just ahead of the other.
	checkMake(t, "abcdabcd", b, 2, copied(0, 2), copied(0, 2))
	// What comes first is taken, also where more would come of what comes later.
	checkMake(t, "aabcd", slowSign("aaabcd", 2), 2, copied(0, 1), text("b"), copied(2, 1))
}

// P14.1: of blocks that are the same the first is copied, so that copies of them don't come together.
func TestMakeTakesTheFirst(t *testing.T) {
	checkMake(t, "aaaa", slowSign("aaaa", 1), 1, copied(0, 1), copied(0, 1), copied(0, 1), copied(0, 1))
	checkMake(t, "abaab", slowSign("abab", 1), 1, copied(0, 2), copied(0, 1), copied(0, 2))
	blocks := []api.Block{slowTell("cd"), slowTell("ab"), slowTell("cd"), slowTell("ab"), slowTell("ef")}
	checkMake(t, "abcdef", blocks, 2, copied(1, 1), copied(0, 1), copied(4, 1))
	checkMake(t, "cdabcd", blocks, 2, copied(0, 2), copied(0, 1))
}

// P14.1: while size bytes are left just blocks of so many match, and then just blocks of all that are left, wherever they stand.
func TestMakeOfShortBlocks(t *testing.T) {
	cd := []api.Block{slowTell("cd")}
	checkMake(t, "abcd", cd, 4, text("ab"), copied(0, 1))
	checkMake(t, "abcd", cd, 3, text("ab"), copied(0, 1))
	checkMake(t, "abcd", cd, 2, text("ab"), copied(0, 1))
	checkMake(t, "abcd", cd, 1, text("abcd"))
	checkMake(t, "cdab", cd, 4, text("cdab"))
	checkMake(t, "cdab", cd, 2, copied(0, 1), text("ab"))
	checkMake(t, "cd", cd, api.MaxData, copied(0, 1))
	// Of two that end the data the one that is met first.
	ends := []api.Block{slowTell("d"), slowTell("cd"), slowTell("abcd"), slowTell("bcd")}
	checkMake(t, "abcd", ends, 5, copied(2, 1))
	checkMake(t, "abcd", ends, 4, copied(2, 1))
	checkMake(t, "abcd", ends, 3, text("a"), copied(3, 1))
	checkMake(t, "abcd", ends, 2, text("ab"), copied(1, 1))
	checkMake(t, "abcd", ends, 1, text("abc"), copied(0, 1))
	checkMake(t, "dcdbcdabcd", ends, 10, text("dcdbcd"), copied(2, 1))
	// A short block behind a copy comes together with it as any other does.
	checkMake(t, "abcdab", slowSign("abcdab", 4), 4, copied(0, 2))
	checkMake(t, "ababcd", slowSign("abcdab", 4), 4, text("ab"), copied(0, 1))
	checkMake(t, "abcdxab", slowSign("abcdab", 4), 4, copied(0, 1), text("x"), copied(1, 1))
}

// twins are two unlike texts of one length that have one weak sum.
func twins() (string, string) { return "aca", "bab" }

// P14.1: a block matches just where its length, its weak sum and its fingerprint are the text's.
func TestMakeNeedsAll(t *testing.T) {
	one, other := twins()
	right, alike := slowTell(one), slowTell(other)
	if one == other || right.Weak != alike.Weak {
		t.Fatalf("%s and %s are no twins", one, other)
	}
	checkMake(t, other, []api.Block{right}, 3, text(other))
	checkMake(t, other, []api.Block{right, alike}, 3, copied(1, 1))
	checkMake(t, one+other+one, []api.Block{alike, alike, right}, 3, copied(2, 1), copied(0, 1), copied(2, 1))
	checkMake(t, one+other+one, []api.Block{right, alike}, 3, copied(0, 2), copied(0, 1))
	for _, wrong := range []api.Block{
		{}, {Len: 3}, {Weak: right.Weak, Len: 3}, {Sum: right.Sum, Len: 3}, {Weak: right.Weak, Sum: right.Sum},
		{Weak: right.Weak + 1, Sum: right.Sum, Len: 3}, {Weak: right.Weak + 65536, Sum: right.Sum, Len: 3},
		{Weak: right.Weak, Sum: right.Sum[:31], Len: 3}, {Weak: right.Weak, Sum: right.Sum + "\x00", Len: 3}, {Weak: right.Weak, Sum: alike.Sum, Len: 3},
		{Weak: right.Weak, Sum: right.Sum, Len: 2}, {Weak: right.Weak, Sum: right.Sum, Len: 4}, {Weak: right.Weak, Sum: right.Sum, Len: -3},
		{Weak: right.Weak, Sum: right.Sum, Len: math.MaxInt}, {Weak: right.Weak, Sum: right.Sum, Len: math.MinInt}, {Weak: math.MaxUint32, Sum: rep("\xff", 70000), Len: 3},
	} {
		for _, size := range []int{1, 2, 3, 4, api.MaxData} {
			checkMake(t, one, []api.Block{wrong}, size, text(one))
		}
		checkMake(t, one, []api.Block{wrong, right}, 3, copied(1, 1))
		checkMake(t, one, []api.Block{right, wrong}, 3, copied(0, 1))
	}
	// Nor does what is told of no bytes match anywhere.
	checkMake(t, "abc", []api.Block{slowTell("")}, 2, text("abc"))
	checkMake(t, "", []api.Block{slowTell("")}, 2)
}

// anyBlocks are blocks of a text, some of them spoilt, some twice, in any order.
func anyBlocks(dice *rand.Rand, base string, size int) []api.Block {
	blocks := slowSign(base, size)
	for range dice.Intn(4) {
		at, end := dice.Intn(len(base)+1), dice.Intn(len(base)+1)
		blocks = slices.Insert(blocks, dice.Intn(len(blocks)+1), slowTell(base[min(at, end):min(max(at, end), min(at, end)+size)]))
	}
	for i := range blocks {
		switch dice.Intn(20) {
		case 0:
			blocks[i].Len = dice.Intn(2*size+3) - 1
		case 1:
			blocks[i].Sum = blocks[dice.Intn(len(blocks))].Sum
		case 2:
			blocks[i].Weak = blocks[dice.Intn(len(blocks))].Weak
		}
	}
	if dice.Intn(4) == 0 {
		dice.Shuffle(len(blocks), func(i, j int) { blocks[i], blocks[j] = blocks[j], blocks[i] })
	}
	return blocks
}

// P14.1: the steps of any data, by any blocks. Of few letters much comes twice, and unlike pieces have one weak sum.
func TestMakeAsSlow(t *testing.T) {
	dice := rand.New(rand.NewSource(14))
	seen := map[string]int{}
	for range 40000 {
		letters := []string{"a", "ab", "abc", "\x00\x01", "\x00\xff\x80"}[dice.Intn(5)]
		base, size := anyText(dice, letters, dice.Intn(30)), 1+dice.Intn(9)
		data, blocks := changed(dice, base, letters), anyBlocks(dice, base, size)
		want := slowMake(data, blocks, size)
		checkMake(t, data, blocks, size, want...)
		for _, op := range want {
			seen["texts"] += min(1, len(op.Text))
			seen["copies"] += min(1, op.Count)
			seen["long copies"] += min(1, op.Count/2)
			seen["later blocks"] += min(1, op.From)
		}
		if t.Failed() {
			return
		}
	}
	for _, kind := range []string{"texts", "copies", "long copies", "later blocks"} {
		if seen[kind] < 1000 {
			t.Errorf("%s: seen %d times", kind, seen[kind])
		}
	}
}

// changed is a text of which pieces have been taken out, put in twice, made new and turned round.
func changed(dice *rand.Rand, s, letters string) string {
	for range dice.Intn(5) {
		at, end := dice.Intn(len(s)+1), dice.Intn(len(s)+1)
		at, end = min(at, end), max(at, end)
		switch dice.Intn(5) {
		case 0:
			s = s[:at] + s[end:]
		case 1:
			s = s[:end] + s[at:]
		case 2:
			s = s[:at] + anyText(dice, letters, dice.Intn(8)) + s[at:]
		case 3:
			s = s[:at] + anyText(dice, letters, end-at) + s[end:]
		case 4:
			s = s[end:] + s[at:end] + s[:at]
		}
	}
	return s
}

// P14.1: windows in which the weak sum wraps, as they roll and as they become shorter.
func TestMakeOfGreatBytes(t *testing.T) {
	dice := rand.New(rand.NewSource(2))
	for _, size := range []int{1, 257, 258, 1000, 3000} {
		for _, letters := range []string{"\xff", "\xfe\xff", "\x00\xff"} {
			base := anyText(dice, letters, 3*size)
			for _, data := range []string{base, "x" + base, base[size/2:], base[1:], "xy" + base[:2*size] + "z" + base[2*size:], base[:2*size-1]} {
				// A block of half the size ends the data: the window becomes shorter up to there.
				blocks := append(slowSign(base, size), slowTell(data[len(data)-size/2:]))
				checkMake(t, data, blocks, size, slowMake(data, blocks, size)...)
			}
		}
	}
}

// P14.1: at each place near the end all that is left is looked for.
func TestMakeOfAllThatIsLeft(t *testing.T) {
	dice := rand.New(rand.NewSource(10))
	for _, data := range []string{anyBytes(dice, 600), rep("\xff", 600), anyBytes(dice, 700), rep("\xff", 700)} {
		for left := 1; left < 600; left++ {
			at := len(data) - left
			checkMake(t, data, []api.Block{slowTell(data[at:])}, 650, text(data[:at]), copied(0, 1))
		}
	}
}

// P14.1: data longer than a file's is told as any other.
func TestMakeOfLongData(t *testing.T) {
	dice := rand.New(rand.NewSource(3))
	base := anyBytes(dice, 300000)
	blocks := slowSign(base, 4096)
	checkMake(t, base, blocks, 4096, copied(0, 74))
	checkMake(t, base[:200000]+"new"+base[200000:], blocks, 4096, copied(0, 48), text(base[48*4096:200000]+"new"+base[200000:49*4096]), copied(49, 25))
	checkMake(t, base, nil, 65536, text(base))
	checkMake(t, base, slowSign(base, 65536), 65536, copied(0, 5))
}

// P14.1: much to be looked for, and nearly nothing found: the end comes soon all the same.
func TestMakeEndsSoon(t *testing.T) {
	dice := rand.New(rand.NewSource(4))
	const most = api.MaxData
	zeros := rep("\x00", most)
	// No block matches, at sizes at which summing each window anew would take long.
	data := anyBytes(dice, 8*most)
	checkMake(t, data, slowSign(anyBytes(dice, most), most/2), most/2, text(data))
	// The weak sum of zeros is that of fewer zeros, whose fingerprints would take long.
	checkMake(t, zeros[1:], []api.Block{slowTell(zeros)}, most, text(zeros[1:]))
	// The weak sum is there at each place, the fingerprint nowhere.
	wrong := api.Block{Sum: slowTell("x").Sum, Len: most / 2}
	checkMake(t, zeros, []api.Block{wrong}, most/2, text(zeros))
	// All blocks have one weak sum and no two are the same, nor is what is looked for among them.
	var alike []api.Block
	for n := range 200000 {
		alike = append(alike, api.Block{Weak: slowTell("ab").Weak, Sum: strconv.Itoa(n), Len: 2})
	}
	checkMake(t, rep("ab", most/2), alike, 2, text(rep("ab", most/2)))
	alike = append(alike, slowTell("ab"))
	checkMake(t, "xab"+rep("y", most), alike, 2, text("x"), copied(200000, 1), text(rep("y", most)))
	// Very many steps.
	var want []api.Op
	for range most {
		want = append(want, text("x"), copied(0, 1))
	}
	checkMake(t, rep("xa", most), slowSign("a", 1), 1, want...)
}

// P14.1: what steps tell, written out.
func TestApply(t *testing.T) {
	const base = "abcdefghij"
	for _, x := range []struct {
		size int
		ops  []api.Op
		want string
		err  api.Errno
	}{
		{4, nil, "", api.OK},
		{4, []api.Op{text("x")}, "x", api.OK},
		{4, []api.Op{text("x"), text("y")}, "xy", api.OK},
		{4, []api.Op{copied(0, 3)}, base, api.OK},
		{4, []api.Op{copied(0, 1)}, "abcd", api.OK},
		{4, []api.Op{copied(2, 1)}, "ij", api.OK},
		{4, []api.Op{copied(1, 2), text("-"), copied(0, 2), copied(1, 1)}, "efghij-abcdefghefgh", api.OK},
		{5, []api.Op{copied(1, 1), copied(0, 2)}, "fghijabcdefghij", api.OK},
		{1, []api.Op{copied(9, 1), copied(0, 10)}, "jabcdefghij", api.OK},
		{10, []api.Op{copied(0, 1)}, base, api.OK},
		{11, []api.Op{copied(0, 1)}, base, api.OK},
		{api.MaxData, []api.Op{copied(0, 1), text("\x00\xff")}, base + "\x00\xff", api.OK},
		{4, []api.Op{{}}, "", api.ErrDelta},
		{4, []api.Op{copied(3, 1)}, "", api.ErrDelta},
		{4, []api.Op{copied(0, 4)}, "", api.ErrDelta},
		{4, []api.Op{copied(1, 3)}, "", api.ErrDelta},
		{4, []api.Op{copied(2, 2)}, "", api.ErrDelta},
		{5, []api.Op{copied(2, 1)}, "", api.ErrDelta},
		{10, []api.Op{copied(1, 1)}, "", api.ErrDelta},
		{4, []api.Op{copied(0, 0)}, "", api.ErrDelta},
		{4, []api.Op{copied(1, 0)}, "", api.ErrDelta},
		{4, []api.Op{copied(-1, 1)}, "", api.ErrDelta},
		{4, []api.Op{copied(-1, 2)}, "", api.ErrDelta},
		{4, []api.Op{copied(0, -1)}, "", api.ErrDelta},
		{4, []api.Op{copied(1, -1)}, "", api.ErrDelta},
		{4, []api.Op{copied(2, -1)}, "", api.ErrDelta},
		{4, []api.Op{copied(math.MaxInt, 1)}, "", api.ErrDelta},
		{4, []api.Op{copied(1, math.MaxInt)}, "", api.ErrDelta},
		{4, []api.Op{copied(math.MaxInt, math.MaxInt)}, "", api.ErrDelta},
		{4, []api.Op{copied(math.MinInt, 1)}, "", api.ErrDelta},
		{4, []api.Op{copied(1, math.MinInt)}, "", api.ErrDelta},
		{4, []api.Op{copied(math.MinInt, math.MinInt)}, "", api.ErrDelta},
		{4, []api.Op{copied(math.MinInt, math.MaxInt)}, "", api.ErrDelta},
		{4, []api.Op{copied(1<<62, 1)}, "", api.ErrDelta},
		{4, []api.Op{{Count: 1, Text: "x"}}, "", api.ErrDelta},
		{4, []api.Op{{From: 1, Text: "x"}}, "", api.ErrDelta},
		{4, []api.Op{{From: 1, Count: 1, Text: "x"}}, "", api.ErrDelta},
		{4, []api.Op{{From: -1, Text: "x"}}, "", api.ErrDelta},
		{4, []api.Op{{Count: -1, Text: "x"}}, "", api.ErrDelta},
		{4, []api.Op{text("x"), copied(0, 1), text("")}, "", api.ErrDelta},
		{4, []api.Op{text(""), copied(0, 1)}, "", api.ErrDelta},
	} {
		checkApply(t, base, x.size, x.ops, x.want, x.err)
	}
	// An empty text has no blocks.
	checkApply(t, "", 4, nil, "", api.OK)
	checkApply(t, "", 4, []api.Op{text("x")}, "x", api.OK)
	checkApply(t, "", 4, []api.Op{copied(0, 1)}, "", api.ErrDelta)
	checkApply(t, "", 4, []api.Op{copied(0, 0)}, "", api.ErrDelta)
}

// P14.1: what is too long, and which of several faults is told.
func TestApplyOfTooMuch(t *testing.T) {
	const most = api.MaxData
	full := rep("x", most)
	long := rep("abcd", most)
	for _, x := range []struct {
		base string
		size int
		ops  []api.Op
		want string
		err  api.Errno
	}{
		{"", 1, []api.Op{text(full)}, full, api.OK},
		{"", 1, []api.Op{text(full + "x")}, "", api.ErrMore},
		{"", 1, []api.Op{text(full[1:]), text("y")}, full[1:] + "y", api.OK},
		{"", 1, []api.Op{text(full), text("y")}, "", api.ErrMore},
		{full, most, []api.Op{copied(0, 1)}, full, api.OK},
		{full, 1, []api.Op{copied(0, most)}, full, api.OK},
		{full, 1, []api.Op{copied(0, most), copied(0, 1)}, "", api.ErrMore},
		{full, most, []api.Op{copied(0, 1), text("y")}, "", api.ErrMore},
		{"ab", 2, slices.Repeat([]api.Op{copied(0, 1)}, most/2), rep("ab", most/2), api.OK},
		{"ab", 2, slices.Repeat([]api.Op{copied(0, 1)}, most/2+1), "", api.ErrMore},
		// A base may be longer than what may come.
		{long, most, []api.Op{copied(3, 1)}, rep("abcd", most/4), api.OK},
		{long, most, []api.Op{copied(0, 2)}, "", api.ErrMore},
		{long, 4, []api.Op{copied(most-1, 1), text("x")}, "abcdx", api.OK},
		{long, 4, []api.Op{copied(0, most)}, "", api.ErrMore},
		{long, 4, []api.Op{copied(0, most/4)}, rep("abcd", most/4), api.OK},
		// The first step that is wrong or too long is told, and of one that is both that it is wrong.
		{full, most, []api.Op{copied(0, 1), copied(0, 1), {}}, "", api.ErrMore},
		{full, most, []api.Op{copied(0, 1), {}, copied(0, 1)}, "", api.ErrDelta},
		{full, most, []api.Op{copied(0, 1), copied(0, 2)}, "", api.ErrDelta},
		{full, most, []api.Op{copied(0, 1), copied(1, 1)}, "", api.ErrDelta},
		{full, most, []api.Op{copied(0, 1), {From: 1, Text: "x"}}, "", api.ErrDelta},
		{full, most, []api.Op{{From: 1, Text: full + "x"}, text(full + "x")}, "", api.ErrDelta},
		{full, most, []api.Op{text(full + "x"), {From: 1, Text: full + "x"}}, "", api.ErrMore},
	} {
		checkApply(t, x.base, x.size, x.ops, x.want, x.err)
	}
}

// anyOps are steps of which nearly all fit so many blocks.
func anyOps(dice *rand.Rand, blocks int) []api.Op {
	var ops []api.Op
	for range dice.Intn(8) {
		op := copied(0, 0)
		switch {
		case dice.Intn(30) == 0:
			op = api.Op{From: dice.Intn(5) - 2, Count: dice.Intn(5) - 2, Text: rep("w", dice.Intn(2))}
		case dice.Intn(6) == 0:
			op = text(rep("l", dice.Intn(40000)+1))
		case dice.Intn(3) == 0 || blocks == 0:
			op = text(rep("t", 1+dice.Intn(5)))
		default:
			op.From = dice.Intn(blocks)
			op.Count = 1 + dice.Intn(blocks-op.From+min(1, dice.Intn(30)/29))
		}
		ops = append(ops, op)
	}
	return ops
}

// P14.1: any steps, of any base.
func TestApplyAsSlow(t *testing.T) {
	dice := rand.New(rand.NewSource(5))
	seen := map[api.Errno]int{}
	for range 20000 {
		base, size := anyText(dice, "abc", dice.Intn(40)), 1+dice.Intn(12)
		ops := anyOps(dice, (len(base)+size-1)/size)
		want, e := slowApply(base, size, ops)
		checkApply(t, base, size, ops, want, e)
		if got := delta.New(ops); got != slowNew(ops) {
			t.Errorf("New(%s) is %d", shown(ops), got)
		}
		seen[e]++
	}
	for _, e := range []api.Errno{api.OK, api.ErrDelta, api.ErrMore} {
		if seen[e] < 100 {
			t.Errorf("%d: seen %d times", e, seen[e])
		}
	}
}

// P14.1: what is new counts by bytes, of any steps.
func TestNew(t *testing.T) {
	for _, x := range []struct {
		ops  []api.Op
		want int
	}{
		{nil, 0}, {[]api.Op{}, 0}, {[]api.Op{{}}, 0}, {[]api.Op{text("a")}, 1}, {[]api.Op{text("é世")}, 5}, {[]api.Op{text("\x00\xff")}, 2},
		{[]api.Op{copied(0, 5)}, 0}, {[]api.Op{copied(3, 5), text("abc"), copied(0, 1), text("de")}, 5},
		{[]api.Op{{From: 1, Text: "ab"}, {Count: -1, Text: "c"}, {From: -1, Count: 7, Text: "d"}, copied(math.MinInt, math.MaxInt)}, 4},
		{[]api.Op{text(rep("x", 70000)), text(rep("y", 70000))}, 140000},
	} {
		if got := delta.New(x.ops); got != x.want {
			t.Errorf("New(%s) is %d, not %d", shown(x.ops), got, x.want)
		}
	}
}

// back makes steps of data by a base's blocks, sees that they tell data, and answers them.
func back(t *testing.T, base, data string, size int) []api.Op {
	t.Helper()
	blocks, e := delta.Sign(base, size)
	ops, f := delta.Make(data, blocks, size)
	got, g := delta.Apply(base, size, ops)
	if e != api.OK || f != api.OK || g != api.OK || got != data {
		t.Fatalf("of %.60q, %.60q, %d comes %.60q, %d, %d, %d", base, data, size, got, e, f, g)
	}
	return ops
}

// P14.2: what the steps tell is the data, whatever stands in the base and the data, at all sizes.
func TestBack(t *testing.T) {
	dice := rand.New(rand.NewSource(6))
	for range 20000 {
		letters := []string{"a", "ab", "\x00\x01\x02"}[dice.Intn(3)]
		base := anyText(dice, letters, dice.Intn(60))
		back(t, base, changed(dice, base, letters), 1+dice.Intn(70))
	}
	one, other := twins()
	for size := 1; size < 8; size++ {
		back(t, one+other+one, other+other+one, size)
		back(t, one, other, size)
	}
	for range 100 {
		base := anyBytes(dice, dice.Intn(api.MaxData+30000))
		data := changed(dice, base, "xyz")
		size := []int{1, 2, 16, 700, 4096, 30000, 65535, 65536}[dice.Intn(8)]
		back(t, base, data[:min(len(data), api.MaxData)], size)
	}
	for _, size := range []int{1, 2, 65535, 65536} {
		back(t, anyBytes(dice, api.MaxData), anyBytes(dice, api.MaxData), size)
		back(t, rep("\x00", api.MaxData), rep("\x00", api.MaxData-1), size)
	}
}

// P14.3: of the base itself nothing is new, at any size.
func TestNothingNew(t *testing.T) {
	dice := rand.New(rand.NewSource(7))
	for n := range 80 {
		for size := 1; size < 85; size++ {
			base := anyText(dice, "ab", n)
			if ops := back(t, base, base, size); delta.New(ops) != 0 {
				t.Fatalf("of %q at %d is new: %s", base, size, shown(ops))
			}
		}
	}
	for _, n := range []int{30000, 65535, 65536} {
		for _, size := range []int{1, 700, 4096, 32768, 65535, 65536} {
			base := anyBytes(dice, n)
			if ops := back(t, base, base, size); delta.New(ops) != 0 {
				t.Fatalf("of %d bytes at %d are new: %d", n, size, delta.New(ops))
			}
		}
	}
}

// P14.3: of a text behind the base, where that ends with a whole block, no more than that text is new.
func TestNewBehind(t *testing.T) {
	dice := rand.New(rand.NewSource(8))
	for range 20000 {
		size := 1 + dice.Intn(12)
		letters := []string{"ab", "abcdefghij"}[dice.Intn(2)]
		base, behind := anyText(dice, letters, size*dice.Intn(6)), anyText(dice, letters, dice.Intn(30))
		if ops := back(t, base, base+behind, size); delta.New(ops) > len(behind) {
			t.Fatalf("of %q behind %q at %d are new: %d", behind, base, size, delta.New(ops))
		}
	}
	for _, size := range []int{1, 2, 1024, 16384, 32768} {
		base, behind := anyBytes(dice, 32768), anyBytes(dice, 32768)
		if ops := back(t, base, base+behind, size); delta.New(ops) > len(behind) {
			t.Fatalf("at %d are new: %d", size, delta.New(ops))
		}
	}
}

// roomy is a list with room behind it, in which something stands.
func roomy[T any](l []T, spare T) []T {
	room := append(slices.Clone(l), slices.Repeat([]T{spare}, 8)...)
	return room[:len(l):len(room)]
}

// spoil changes all that a list has, and the room behind it.
func spoil[T any](l []T, with T) {
	l = l[:cap(l)]
	for i := range l {
		l[i] = with
	}
}

// untouched tells whether a list and the room behind it are as roomy made them.
func untouched[T comparable](l, was []T, spare T) bool {
	behind := l[len(l):cap(l)]
	return slices.Equal(l, was) && !slices.ContainsFunc(behind, func(x T) bool { return x != spare })
}

// P14.4: what is handed in stays as it was, with the room behind it, and isn't kept; lists that are answered are new memory.
func TestMemory(t *testing.T) {
	block, op := api.Block{Weak: 9, Sum: "spare", Len: 9}, api.Op{From: 9, Count: 9, Text: "spare"}
	dice := rand.New(rand.NewSource(9))
	for range 3000 {
		base, size := anyText(dice, "abc", dice.Intn(30)), 1+dice.Intn(6)
		data := changed(dice, base, "abc")
		signed := slowSign(base, size)
		steps := slowMake(data, signed, size)
		first, _ := delta.Sign(base, size)
		second, _ := delta.Sign(base, size)
		spoil(second, block)
		checkSign(t, base, size, signed)

		blocks := roomy(signed, block)
		made, _ := delta.Make(data, blocks, size)
		again, _ := delta.Make(data, blocks, size)
		spoil(again, op)
		if !untouched(blocks, signed, block) || !slices.Equal(first, signed) {
			t.Fatalf("%q, %q, %d: the blocks have changed", base, data, size)
		}
		spoil(blocks, block)
		checkMake(t, data, signed, size, steps...)

		ops := roomy(steps, op)
		told, _ := delta.Apply(base, size, ops)
		news := delta.New(ops)
		if !untouched(ops, steps, op) || !slices.Equal(made, steps) {
			t.Fatalf("%q, %q, %d: the steps have changed", base, data, size)
		}
		spoil(ops, op)
		checkApply(t, base, size, steps, told, api.OK)
		if told != data || news != slowNew(steps) {
			t.Fatalf("%q, %q, %d: %q, %d", base, data, size, told, news)
		}
	}
}

// apart tells whether two texts share no byte of memory.
func apart(a, b string) bool {
	if a == "" || b == "" {
		return true
	}
	from, to := uintptr(unsafe.Pointer(unsafe.StringData(a))), uintptr(unsafe.Pointer(unsafe.StringData(b)))
	return from+uintptr(len(a)) <= to || to+uintptr(len(b)) <= from
}

// P14.4: texts that are answered are new memory as well.
func TestTextsAreNew(t *testing.T) {
	base, data := rep("abcd", 100), rep("xbcd", 100)
	ops, _ := delta.Make(data, nil, 4)
	if len(ops) != 1 || !apart(ops[0].Text, data) {
		t.Errorf("the steps %s are made of the data's own bytes", shown(ops))
	}
	for _, steps := range [][]api.Op{{copied(0, 100)}, {copied(3, 1)}, {text(data)}} {
		told, e := delta.Apply(base, 4, steps)
		if e != api.OK || !apart(told, base) || !apart(told, data) {
			t.Errorf("what %s tells is made of bytes that were handed in", shown(steps))
		}
	}
}
