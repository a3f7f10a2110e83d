package merge_test

import (
	"math/rand"
	"slices"
	"strconv"
	"strings"
	"testing"
	"unsafe"

	"hawser/api"
	"hawser/merge"
)

// most is how many bytes may be made.
const most = 65536

// programs are the names of all programs.
func programs() []string { return []string{"a", "b", "union", "lines", "longer"} }

// rep is s, n times.
func rep(s string, n int) string { return strings.Repeat(s, n) }

// numbered are the lines from from up to, but without, to, each its number.
func numbered(from, to int) string {
	var all strings.Builder
	for n := from; n < to; n++ {
		all.WriteString(strconv.Itoa(n) + "\n")
	}
	return all.String()
}

// check asks for what a program makes.
func check(t *testing.T, x asked, want answered) {
	t.Helper()
	got, e := merge.Run(x.program, x.o, x.a, x.b)
	if got != want.text || int(e) != want.err {
		t.Errorf("Run(%.40q, %.60q, %.60q, %.60q) is %.60q of %d bytes, %d, not %.60q of %d bytes, %d", x.program, x.o, x.a, x.b, got, len(got), e, want.text, len(want.text), want.err)
	}
}

// made and refused are the two kinds of answers.
func made(text string) answered    { return answered{text, int(api.OK)} }
func refused(e api.Errno) answered { return answered{"", int(e)} }

// checkLines asks for a text's lines.
func checkLines(t *testing.T, s string, want ...string) {
	t.Helper()
	if got := merge.Lines(s); !slices.Equal(got, want) {
		t.Errorf("Lines(%.60q) is %.120q, not %.120q", s, got, want)
	}
}

// P17.1: the chapter's examples.
func TestExamples(t *testing.T) {
	const o = "1\n2\n3\n"
	check(t, asked{"lines", o, "0\n1\n2\n3\n", "1\n2\n3\n4\n"}, made("0\n1\n2\n3\n4\n"))
	check(t, asked{"lines", o, "x\n2\n3\n", "y\n2\n3\n"}, refused(api.ErrMerge))
	check(t, asked{"union", o, "p\nq", "q\nr"}, made("p\nq\nq\nr"))
}

// P17.1: lines, written out.
func TestLines(t *testing.T) {
	checkLines(t, "")
	checkLines(t, "\n", "\n")
	checkLines(t, "a", "a")
	checkLines(t, "a\n", "a\n")
	checkLines(t, "a\nb", "a\n", "b")
	checkLines(t, "a\nb\n", "a\n", "b\n")
	checkLines(t, "\na", "\n", "a")
	checkLines(t, "\n\n\n", "\n", "\n", "\n")
	checkLines(t, "a\n\n b \n\nc", "a\n", "\n", " b \n", "\n", "c")
	// No other byte ends a line, and none is left away.
	checkLines(t, "a\r\nb\rc\vd\fe\x00f", "a\r\n", "b\rc\vd\fe\x00f")
	checkLines(t, "é\n\u2028世\u0085\n\xff\n\x80", "é\n", "\u2028世\u0085\n", "\xff\n", "\x80")
	checkLines(t, "\n\r", "\n", "\r")
	for b := range 256 {
		s := string([]byte{'x', byte(b), 'y'})
		if b == 10 {
			checkLines(t, s, "x\n", "y")
		} else {
			checkLines(t, s, s)
		}
	}
}

// texts are all texts of at most this many of these letters.
func texts(letters []string, most int) []string {
	all, last := []string{""}, []string{""}
	for range most {
		var next []string
		for _, s := range last {
			for _, letter := range letters {
				next = append(next, s+letter)
			}
		}
		all, last = append(all, next...), next
	}
	return all
}

// P17.1, P17.2: the lines of all short texts, of any, and of very long ones; joined they are the text.
func TestLinesAsSlow(t *testing.T) {
	all := texts([]string{"a", "b", "\n"}, 8)
	dice := rand.New(rand.NewSource(17))
	for range 2000 {
		all = append(all, anyText(dice, "\n\n\r\x00\xffab", dice.Intn(200)))
	}
	all = append(all, rep("\n", 1<<20), rep("x", 1<<20), rep("x", 1<<20)+"\n", rep("ab\n", 1<<20)+"a", numbered(0, 1<<20))
	for _, s := range all {
		got := merge.Lines(s)
		if !slices.Equal(got, slowLines(s)) {
			t.Fatalf("Lines(%.60q) is %d lines: %.60q", s, len(got), got[:min(5, len(got))])
		}
		if strings.Join(got, "") != s {
			t.Fatalf("the lines of %.60q joined are another text", s)
		}
	}
}

// anyText is a text of n of these bytes.
func anyText(dice *rand.Rand, letters string, n int) string {
	all := make([]byte, n)
	for i := range all {
		all[i] = letters[dice.Intn(len(letters))]
	}
	return string(all)
}

// P17.1: just the five are programs, by Known and by Run.
func TestKnown(t *testing.T) {
	for _, p := range programs() {
		if !merge.Known(p) {
			t.Errorf("%s isn't known", p)
		}
		check(t, asked{program: p}, made(""))
		check(t, asked{p, "o", "x", "x"}, made("x"))
	}
	others := []string{"", "c", "o", "A", "B", "ab", "aa", "a\n", "\na", " a", "b ", "a\x00", "Union", "UNION", "unio", "unions", "line", "Lines", "lines\n", "\xfflines", "long", "longer ", "longest", "Longer", "shorter", "merge", "é", "\x00", "\xff", rep("a", most), rep("lines", 1<<20)}
	for b := range 256 {
		if b != 'a' && b != 'b' {
			others = append(others, string([]byte{byte(b)}))
		}
	}
	for _, p := range others {
		if merge.Known(p) {
			t.Errorf("%.40q is known", p)
		}
		// Nothing else that is handed in counts then, not even what would be too long.
		for _, s := range []string{"", "x", "x\n", rep("x", most), rep("x", most+1)} {
			check(t, asked{p, s, s, s}, refused(api.ErrMerge))
			check(t, asked{p, "", s, ""}, refused(api.ErrMerge))
		}
	}
}

// P17.1: a and b make just these, whatever the other texts are.
func TestSides(t *testing.T) {
	some := []string{"", "x", "x\n", "y", "\n", "\n\n", "a\x00\xff\r", rep("z\n", most/2)}
	for _, o := range some {
		for _, a := range some {
			for _, b := range some {
				check(t, asked{"a", o, a, b}, made(a))
				check(t, asked{"b", o, a, b}, made(b))
			}
		}
	}
}

// P17.1: union, written out.
func TestUnion(t *testing.T) {
	for _, x := range []struct{ a, b, want string }{
		{"", "", ""}, {"x", "", "x"}, {"", "x", "x"}, {"x\n", "", "x\n"}, {"", "x\n", "x\n"}, {"", "x\nx\ny", "x\nx\ny"},
		{"x", "x", "x"}, {"x\n", "x\n", "x\n"}, {"x", "y", "x\ny"}, {"x\n", "y", "x\ny"}, {"x", "y\n", "x\ny\n"}, {"x\n", "y\n", "x\ny\n"},
		{"p\nq\n", "q\nr\n", "p\nq\nr\n"}, {"q\nr\n", "p\nq\n", "q\nr\np\n"}, {"p\nq", "q\nr", "p\nq\nq\nr"},
		// A line that lacks its byte is another one than that with it, on either side.
		{"x", "x\n", "x\nx\n"}, {"x\n", "x", "x\nx"}, {"x\ny", "y\nx", "x\ny\ny\nx"}, {"x\ny\n", "y", "x\ny\ny"}, {"x\nx", "x\n", "x\nx"}, {"x\nx", "x\nx", "x\nx"}, {"x\nx", "x", "x\nx"},
		{"\n", "", "\n"}, {"\n", "\n\n", "\n"}, {"\n", "x", "\nx"}, {"x", "\n", "x\n\n"}, {"x\n", "\n", "x\n\n"}, {"x", "\nx", "x\n\n"}, {"x", "\ny", "x\n\ny"},
		// Where nothing of b is put, nothing is ended.
		{"x\ny", "x\n", "x\ny"}, {"y\nx\nz", "x\ny\nx\n", "y\nx\nz"},
		// What stands more than once in one text stands so often; what a has, comes once more from nowhere.
		{"x\nx\n", "x\n", "x\nx\n"}, {"x\n", "x\nx\nx\n", "x\n"}, {"x\n", "y\ny\n", "x\ny\ny\n"}, {"x\n", "y\nz\ny\nx\nz", "x\ny\nz\ny\nz"}, {"z\n", "y\nx\n", "z\ny\nx\n"},
		// Lines are told apart by each byte.
		{"x\r\n", "x\n", "x\r\nx\n"}, {"X\n", "x\n", "X\nx\n"}, {"x \n", "x\n", "x \nx\n"}, {"\xff\n", "\xfe\n\xff\n", "\xff\n\xfe\n"}, {"x\x00", "x", "x\x00\nx"}, {"ab\n", "a\nb\n", "ab\na\nb\n"}, {"é", "e\u0301", "é\ne\u0301"},
	} {
		for _, o := range []string{"", "x\n", x.a, x.b, x.want, rep("x", most+1)} {
			check(t, asked{"union", o, x.a, x.b}, made(x.want))
		}
	}
}

// P17.1: of both the one of more bytes, and of as many the one that is less by its bytes.
func TestLonger(t *testing.T) {
	for _, x := range []struct{ a, b, want string }{
		{"", "", ""}, {"a", "", "a"}, {"", "a", "a"}, {"ab", "b", "ab"}, {"b", "ab", "ab"}, {"z", "aa", "aa"}, {"aa", "z", "aa"},
		{"ab", "aa", "aa"}, {"aa", "ab", "aa"}, {"ba", "ab", "ab"}, {"x", "x", "x"}, {"a", "B", "B"}, {"\x00", "\xff", "\x00"}, {"\xff", "\x7f", "\x7f"}, {"\x80", "\x7f", "\x7f"}, {"a\x00", "a\n", "a\x00"},
		// Bytes count, not lines nor runes.
		{"\n\n\n", "abcd", "abcd"}, {"é", "abc", "abc"}, {"éé", "abc", "éé"}, {"世", "zzz", "zzz"},
		{rep("b", most), rep("a", most), rep("a", most)}, {rep("a", most-1), rep("b", most), rep("b", most)}, {rep("a", most-1) + "c", rep("a", most-1) + "b", rep("a", most-1) + "b"},
	} {
		for _, o := range []string{"", x.a, x.b, rep("x", most+1)} {
			check(t, asked{"longer", o, x.a, x.b}, made(x.want))
			check(t, asked{"longer", o, x.b, x.a}, made(x.want))
		}
	}
}

// bothWays asks for what lines makes of a and b, and of b and a.
func bothWays(t *testing.T, o, a, b string, want answered) {
	t.Helper()
	check(t, asked{"lines", o, a, b}, want)
	check(t, asked{"lines", o, b, a}, want)
}

// P17.1, P17.2: where one has not changed, or both to the same, nothing can be in the way.
func TestByLinesOfOneChange(t *testing.T) {
	some := []string{"", "x", "x\n", "x\ny", "x\ny\n", "\n", "y\nx\n", "z", rep("x\n", most/2), numbered(0, 9000)}
	for _, o := range some {
		for _, a := range some {
			bothWays(t, o, a, o, made(a))
			check(t, asked{"lines", o, a, a}, made(a))
		}
	}
}

// P17.1: lines, written out, where both have changed otherwise.
func TestByLines(t *testing.T) {
	const o = "1\n2\n3\n4\n5\n"
	for _, x := range []struct{ o, a, b, want string }{
		// Lines changed, with one line at least between both.
		{o, "x\n2\n3\n4\n5\n", "1\n2\ny\n4\n5\n", "x\n2\ny\n4\n5\n"}, {o, "x\n2\n3\n4\n5\n", "1\n2\n3\n4\ny\n", "x\n2\n3\n4\ny\n"}, {o, "1\nx\n3\n4\n5\n", "1\n2\n3\ny\nz\n", "1\nx\n3\ny\nz\n"},
		{o, "u\nv\n3\n4\n5\n", "1\n2\n3\ny\n", "u\nv\n3\ny\n"}, {"1\n2\n3\n", "x\n2\n3\n", "1\n2\ny\n", "x\n2\ny\n"},
		// One change of two places spans all that is between them.
		{o, "x\n2\ny\n4\n5\n", "1\n2\n3\n4\nz\n", "x\n2\ny\n4\nz\n"},
		// Lines that came, at the beginning, in the middle and at the end.
		{"1\n", "0\n1\n", "1\n2\n", "0\n1\n2\n"}, {o, "0\n" + o, o + "6\n", "0\n" + o + "6\n"}, {o, "1\nx\n2\n3\n4\n5\n", "1\n2\ny\n3\n4\n5\n", "1\nx\n2\ny\n3\n4\n5\n"}, {o, "0\n" + o, "1\ny\n3\n4\n5\n", "0\n1\ny\n3\n4\n5\n"},
		{o, "x\n3\n4\n5\n", o + "6", "x\n3\n4\n5\n6"}, {o, "-1\n0\n" + o, "1\n2\n3\n4\n", "-1\n0\n1\n2\n3\n4\n"},
		// Lines that went.
		{o, "2\n3\n4\n5\n", "1\n2\n3\n4\n", "2\n3\n4\n"}, {o, "3\n4\n5\n", "1\n2\n", "\x00"}, {o, "3\n4\n5\n", "1\n2\n3\n", "3\n"}, {o, "1\n3\n4\n5\n", "1\n2\n3\n5\n", "1\n3\n5\n"}, {o, "4\n5\n", "1\n2\n3\n4\nx\n", "4\nx\n"}, {"1\n2\n3\n", "2\n3\n", "1\n2\n", "2\n"},
		// The last line lacks its byte: in all three, in one, in two.
		{"1\n2\n3", "x\n2\n3", "1\n2\n4", "x\n2\n4"}, {"1\n2\n3", "x\n2\n3", "1\n2\n3\n", "x\n2\n3\n"}, {"1\n2\n3\n", "x\n2\n3\n", "1\n2\n3", "x\n2\n3"}, {"1\n2\n3", "0\n1\n2\n3", "1\n2\n3\n4", "0\n1\n2\n3\n4"}, {"1\n2\n3\n", "0\n1\n2\n3\n", "1\n2", "0\n1\n2"},
		{"1\n2", "0\n1\n2", "1\n2\n", "0\n1\n2\n"}, {"1\n2\n3", "x\n3", "1\n2\n3\n", "\x00"}, {"1\n2\n3", "x\n2\n3", "1\n2\n", "x\n2\n"},
		// They touch, though none has what the other has: one right behind the other.
		{"1\n2\n", "x\n2\n", "1\ny\n", "\x00"}, {o, "1\nx\n3\n4\n5\n", "1\n2\ny\n4\n5\n", "\x00"}, {o, "1\nx\n2\n3\n4\n5\n", "1\ny\n3\n4\n5\n", "\x00"}, {o, "1\n2\nx\n3\n4\n5\n", "1\ny\n3\n4\n5\n", "\x00"}, {o, "x\n2\n3\n4\n5\n", "1\n3\n4\n5\n", "\x00"},
		// Lines that came at one place, of which the order can't be told.
		{o, "1\nx\n2\n3\n4\n5\n", "1\ny\n2\n3\n4\n5\n", "\x00"}, {o, "x\n" + o, "y\n" + o, "\x00"}, {o, o + "x\n", o + "y\n", "\x00"}, {"", "x\n", "y\n", "\x00"}, {"", "x", "y", "\x00"}, {"", "x", "x\n", "\x00"}, {"", "\n", "\n\n", "\x00"},
		// They overlap; one is in the other; both have changed the same and more.
		{o, "x\n2\n3\n4\n5\n", "y\n2\n3\n4\n5\n", "\x00"}, {o, "1\nx\ny\n4\n5\n", "1\n2\nu\nv\n5\n", "\x00"}, {o, "x\n", "1\n2\ny\n4\n5\n", "\x00"}, {o, "", "1\n2\n3\n4\nx\n", "\x00"}, {o, "", o + "6\n", "\x00"}, {o, "", "0\n" + o, "\x00"}, {o, "1\nx\n3\n4\n5\n", "1\nx\n3\n4\ny\n", "\x00"}, {"1", "2", "3", "\x00"}, {"1\n", "1", "2\n", "\x00"}, {"1", "1\n", "1\n2", "\x00"},
		// A line changed between two places of the other.
		{o, "x\n2\n3\n4\ny\n", "1\n2\nz\n4\n5\n", "\x00"},
		// Lines are told apart by each byte.
		{"a\nb\nc\n", "A\nb\nc\n", "a\nb\nC\n", "A\nb\nC\n"}, {"a\nb\nc\n", "a\r\nb\nc\n", "a\nb\nc \n", "a\r\nb\nc \n"}, {"\xff\nb\n\x80\n", "\xfe\nb\n\x80\n", "\xff\nb\n\x81\n", "\xfe\nb\n\x81\n"}, {"\n\n\n", "\x00\n\n\n", "\n\n\t", "\x00\n\n\t"}, {"a\nb\nc\n", "A\nb\nc\n", "a\nB\nc\n", "\x00"},
	} {
		if x.want == "\x00" {
			bothWays(t, x.o, x.a, x.b, refused(api.ErrMerge))
		} else {
			bothWays(t, x.o, x.a, x.b, made(x.want))
		}
	}
}

// P17.1: where lines are the same, what begins alike counts ahead of what ends alike, and no line counts twice.
func TestByLinesOfSameLines(t *testing.T) {
	for _, x := range []struct{ o, a, b, want string }{
		// One x has come: behind the last one, not ahead of the first.
		{"x\nx\n", "x\nx\nx\n", "y\nx\n", "y\nx\nx\n"}, {"x\nx\n", "x\nx\nx\n", "x\ny\n", "\x00"}, {"x\n", "x\nx\n", "y\nx\n", "y\nx\nx\n"}, {"x\n", "x\nx\n", "y\n", "\x00"}, {"x\n", "x\nx\n", "x\ny\n", "\x00"},
		// One x has gone: the last one.
		{"x\nx\n", "x\n", "y\nx\nx\n", "y\nx\n"}, {"x\nx\n", "x\n", "x\nx\ny\n", "\x00"}, {"x\nx\nx\n", "x\nx\n", "y\nx\nx\n", "y\nx\n"}, {"x\nx\nx\n", "x\nx\n", "x\ny\nx\n", "\x00"}, {"x\nx\nz\n", "x\nz\n", "y\nx\nx\nz\n", "y\nx\nz\n"}, {"x\nx\nz\n", "x\nz\n", "x\nx\nz\ny\n", "x\nz\ny\n"},
		{"\n\n\n", "\n\n\n\n", "a\n\n\n\n", "a\n\n\n\n\n"}, {"\n\n\n", "\n", "a\n\n\n\n", "a\n\n"}, {"\n\n\n", "\n", "\n\n\na\n", "\x00"},
		// As many as can be, of rows that come again: the second "1 2" is what came.
		{"1\n2\n3\n", "1\n2\n1\n2\n3\n", "0\n1\n2\n3\n", "0\n1\n2\n1\n2\n3\n"}, {"1\n2\n3\n", "1\n2\n1\n2\n3\n", "1\n0\n2\n3\n", "1\n0\n2\n1\n2\n3\n"}, {"1\n2\n3\n", "1\n2\n1\n2\n3\n", "1\n2\n0\n3\n", "\x00"}, {"1\n2\n3\n", "1\n2\n1\n2\n3\n", "1\n2\n3\n0\n", "1\n2\n1\n2\n3\n0\n"},
		{"1\n2\n1\n2\n3\n", "1\n2\n3\n", "1\n0\n2\n1\n2\n3\n", "1\n0\n2\n3\n"}, {"1\n2\n1\n2\n3\n", "1\n2\n3\n", "1\n2\n1\n2\n0\n", "\x00"}, {"1\n2\n1\n2\n3\n", "1\n2\n3\n", "1\n2\n1\n2\n3\n0\n", "1\n2\n3\n0\n"},
		// The one byte 10 that is lacking makes another line.
		{"x\nx", "x\nx\n", "y\nx\nx", "y\nx\nx\n"}, {"x\nx", "x\nx\nx", "y\nx\nx", "y\nx\nx\nx"}, {"x\nx\n", "x\nx", "y\nx\nx\n", "y\nx\nx"}, {"x\nx", "x", "y\nx\nx", "\x00"}, {"z\nx\nx", "z\nx", "y\nz\nx\nx", "y\nz\nx"},
	} {
		if x.want == "\x00" {
			bothWays(t, x.o, x.a, x.b, refused(api.ErrMerge))
		} else {
			bothWays(t, x.o, x.a, x.b, made(x.want))
		}
	}
}

// P17.1: what a program makes has at most MaxData bytes; what was handed in may have more.
func TestErrMore(t *testing.T) {
	full, over := rep("x", most), rep("x", most+1)
	lines := rep("x\n", most/2)
	for _, x := range []struct {
		asked
		want answered
	}{
		{asked{"a", "", full, ""}, made(full)}, {asked{"a", "", over, ""}, refused(api.ErrMore)}, {asked{"a", over, full, over}, made(full)}, {asked{"a", "", rep("x", 1<<24), ""}, refused(api.ErrMore)},
		{asked{"b", "", "", full}, made(full)}, {asked{"b", "", "", over}, refused(api.ErrMore)}, {asked{"b", over, over, full}, made(full)}, {asked{"b", over, over, ""}, made("")},
		{asked{"longer", "", full, ""}, made(full)}, {asked{"longer", "", over, full}, refused(api.ErrMore)}, {asked{"longer", "", full, over}, refused(api.ErrMore)}, {asked{"longer", over, full, full}, made(full)},
		{asked{"union", "", full, full}, made(full)}, {asked{"union", "", over, ""}, refused(api.ErrMore)}, {asked{"union", "", "", over}, refused(api.ErrMore)}, {asked{"union", over, "", ""}, made("")},
		// The byte 10 that is put counts too.
		{asked{"union", "", rep("x", most-2), "y"}, made(rep("x", most-2) + "\ny")}, {asked{"union", "", rep("x", most-1), "y"}, refused(api.ErrMore)}, {asked{"union", "", rep("x", most-2) + "\n", "y"}, made(rep("x", most-2) + "\ny")}, {asked{"union", "", rep("x", most-2) + "\n", "y\n"}, refused(api.ErrMore)}, {asked{"union", "", full, "\n"}, refused(api.ErrMore)}, {asked{"union", "", lines, "\n"}, refused(api.ErrMore)},
		// What is left away doesn't count.
		{asked{"union", "", lines, rep("x\n", most)}, made(lines)}, {asked{"union", "", "x\n", rep("x\n", most) + "y"}, made("x\ny")}, {asked{"union", "", "x\n", rep("x\n", most) + rep("y", most-2)}, made("x\n" + rep("y", most-2))}, {asked{"union", "", "x\n", rep("x\n", most) + rep("y", most-1)}, refused(api.ErrMore)},
		{asked{"lines", "", full, ""}, made(full)}, {asked{"lines", "", over, ""}, refused(api.ErrMore)}, {asked{"lines", "", "", over}, refused(api.ErrMore)}, {asked{"lines", "", over, over}, refused(api.ErrMore)}, {asked{"lines", over, over, over}, refused(api.ErrMore)}, {asked{"lines", over, over, full}, made(full)}, {asked{"lines", over, "", over}, made("")},
		{asked{"lines", "1\n" + lines, "0\n1\n" + lines, "1\n" + lines + "2\n"}, refused(api.ErrMore)},
		{asked{"lines", rep("x\n", most/2-2), "0\n" + rep("x\n", most/2-2), rep("x\n", most/2-2) + "2\n"}, made("0\n" + rep("x\n", most/2-2) + "2\n")},
		{asked{"lines", rep("x\n", most/2-2), "0\n" + rep("x\n", most/2-2), rep("x\n", most/2-2) + "23\n"}, refused(api.ErrMore)},
		// All three are too long, what is made isn't.
		{asked{"lines", numbered(0, 30000), numbered(10000, 30000), numbered(0, 20000)}, made(numbered(10000, 20000))},
		// What can't be made isn't too long.
		{asked{"lines", "", over, "y"}, refused(api.ErrMerge)}, {asked{"lines", "", over, over + "y"}, refused(api.ErrMerge)}, {asked{"lines", lines + "1\n", lines + "2\n", lines + "3\n"}, refused(api.ErrMerge)}, {asked{"lines", over, "x", "y"}, refused(api.ErrMerge)},
	} {
		check(t, x.asked, x.want)
	}
}

// P17.1, P17.2, P17.3: all programs, over all short texts of bytes.
func TestAllShort(t *testing.T) {
	all := texts([]string{"a", "b", "\n"}, 3)
	for _, o := range all {
		for _, a := range all {
			for _, b := range all {
				for _, p := range programs() {
					check(t, asked{p, o, a, b}, slowRun(asked{p, o, a, b}))
				}
				checkUnion(t, a, b)
			}
		}
		if t.Failed() {
			return
		}
	}
}

// P17.1, P17.2: lines, over all texts of few lines, with and without the last byte 10.
func TestAllOfFewLines(t *testing.T) {
	var all []string
	for _, s := range texts([]string{"1\n", "2\n"}, 5) {
		all = append(all, s)
		if s != "" && len(s) < 10 {
			all = append(all, s[:len(s)-1])
		}
	}
	count := map[int]int{}
	for _, o := range all {
		for _, a := range all {
			for _, b := range all {
				want := slowRun(asked{"lines", o, a, b})
				bothWays(t, o, a, b, want)
				count[want.err]++
			}
		}
		if t.Failed() {
			return
		}
	}
	if count[0] < 10000 || count[170] < 10000 {
		t.Errorf("not both kinds of answers: %v", count)
	}
}

// changed is a text of which some lines have gone, come, or become others, at one place or more.
func changed(dice *rand.Rand, s string) string {
	lines := slowLines(s)
	for range dice.Intn(3) {
		at, end := dice.Intn(len(lines)+1), dice.Intn(len(lines)+1)
		at, end = min(at, end), min(max(at, end), min(at, end)+3)
		lines = slices.Replace(lines, at, end, slowLines(anyText(dice, "12\n\n", dice.Intn(6)))...)
	}
	// What lacks its byte 10 and isn't the last one is one line with the next one: that is a change as well.
	return strings.Join(lines, "")
}

// P17.1, P17.2, P17.3: all programs, over changes of random texts.
func TestAny(t *testing.T) {
	dice := rand.New(rand.NewSource(170))
	count := map[answered]int{}
	for range 60000 {
		o := anyText(dice, []string{"1\n", "12\n\n", "abcdef\n"}[dice.Intn(3)], dice.Intn(40))
		a, b := changed(dice, o), changed(dice, o)
		for _, p := range programs() {
			check(t, asked{p, o, a, b}, slowRun(asked{p, o, a, b}))
		}
		bothWays(t, o, a, b, slowRun(asked{"lines", o, a, b}))
		bothWays(t, o, a, o, made(a))
		checkUnion(t, a, b)
		if t.Failed() {
			return
		}
		if a != b && a != o && b != o {
			count[answered{err: slowRun(asked{"lines", o, a, b}).err}]++
		}
	}
	if count[made("")] < 3000 || count[refused(api.ErrMerge)] < 3000 {
		t.Errorf("not both kinds of answers: %v", count)
	}
}

// checkUnion asks what union makes for P17.3: each line of a and b, and no other, but for bytes 10 that were put.
func checkUnion(t *testing.T, a, b string) {
	t.Helper()
	got, e := merge.Run("union", "", a, b)
	if e != api.OK || !strings.HasPrefix(got, a) {
		t.Errorf("union of %q and %q is %q, %d, which doesn't begin with a", a, b, got, e)
	}
	of, from := bare(merge.Lines(got)), slices.Concat(bare(merge.Lines(a)), bare(merge.Lines(b)))
	for _, line := range from {
		if !slices.Contains(of, line) {
			t.Errorf("union of %q and %q is %q: %q is lost", a, b, got, line)
		}
	}
	for _, line := range of {
		if !slices.Contains(from, line) {
			t.Errorf("union of %q and %q is %q: %q is of neither", a, b, got, line)
		}
	}
}

// bare are lines without their bytes 10.
func bare(lines []string) []string {
	all := []string{}
	for _, line := range lines {
		all = append(all, strings.TrimSuffix(line, "\n"))
	}
	return all
}

// P17.1: texts of a great many lines, and of great lines.
func TestLong(t *testing.T) {
	long := numbered(0, 300000)
	check(t, asked{"lines", long, "x\n" + long, long + "y\n"}, refused(api.ErrMore))
	check(t, asked{"lines", long, "x\n" + long, "y\n" + long}, refused(api.ErrMerge))
	check(t, asked{"lines", long, numbered(299000, 300000), numbered(0, 299500)}, made(numbered(299000, 299500)))
	check(t, asked{"lines", rep("\n", 1<<20), rep("\n", 3), "x" + rep("\n", 1<<20)}, made("x\n\n\n"))
	check(t, asked{"lines", rep("\n", 1<<20), "\n", "x" + rep("\n", 1<<20)}, refused(api.ErrMerge))
	check(t, asked{"lines", rep("\n", 1<<20), rep("\n", 3), "x\n" + rep("\n", 1<<20)}, made("x\n\n\n\n"))
	check(t, asked{"union", "", long, long}, refused(api.ErrMore))
	check(t, asked{"union", "", numbered(0, 5000), rep(numbered(0, 5000), 50) + "x"}, made(numbered(0, 5000)+"x"))
	check(t, asked{"union", "", "x", rep("x\n", 1<<20)}, refused(api.ErrMore))
	check(t, asked{"union", "", "x\n", rep("x\n", 1<<20)}, made("x\n"))
	great := rep("x", 1<<22)
	check(t, asked{"lines", great + "\n1\n2\n", great + "y\n1\n2\n", great + "\n1\n3\n"}, refused(api.ErrMore))
	check(t, asked{"lines", great + "\n1\n2\n", "1\n2\n", great + "\n1\n3\n"}, made("1\n3\n"))
	check(t, asked{"longer", "", great + "a", great + "b"}, refused(api.ErrMore))
}

// R7: an answer hangs on nothing that was asked before.
func TestOneAnswer(t *testing.T) {
	x := asked{"union", "", numbered(0, 200), numbered(100, 400)}
	for range 50 {
		check(t, x, made(numbered(0, 400)))
		check(t, asked{"union", "", "1\n", "2\n"}, made("1\n2\n"))
		check(t, asked{"none", "", "1\n", "2\n"}, refused(api.ErrMerge))
	}
}

// R4: lists that are answered are new memory, each with room of its own.
func TestListsAreNew(t *testing.T) {
	const s = "a\nb\nc"
	first, second := merge.Lines(s), merge.Lines(s)
	first[0], first[2] = "x", "y"
	if grown := append(first[:2], "z", "z", "z"); len(grown) != 5 {
		t.Error(grown)
	}
	if !slices.Equal(second, slowLines(s)) {
		t.Errorf("a list has changed with another one: %q", second)
	}
	checkLines(t, s, "a\n", "b\n", "c")
}

// apart tells whether two texts share no byte of memory.
func apart(a, b string) bool {
	from, to := uintptr(unsafe.Pointer(unsafe.StringData(a))), uintptr(unsafe.Pointer(unsafe.StringData(b)))
	return from+uintptr(len(a)) <= to || to+uintptr(len(b)) <= from
}

// R4: texts that are answered are new memory as well.
func TestTextsAreNew(t *testing.T) {
	o, a, b := numbered(0, 10), numbered(1, 10), numbered(0, 9)
	for _, p := range programs() {
		for _, x := range []asked{{p, o, a, b}, {p, o, a, o}, {p, o, o, b}, {p, o, a, a}, {p, "", a, ""}, {p, "", "", b}} {
			got, e := merge.Run(x.program, x.o, x.a, x.b)
			if e != api.OK || got != "" && (!apart(got, o) || !apart(got, a) || !apart(got, b)) {
				t.Errorf("what %s makes of %q, %q and %q is made of their own bytes, or %d", p, x.o, x.a, x.b, e)
			}
		}
	}
	for _, line := range merge.Lines(o) {
		if !apart(line, o) {
			t.Errorf("the line %q is made of the text's own bytes", line)
		}
	}
}
