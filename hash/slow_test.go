package hash_test

import (
	"crypto/sha256"
	"encoding/hex"
	"hash/crc32"
	"math"
	"math/big"
	"math/rand"
	"testing"

	"hawser/hash"
)

// The same answers by other means than the program's: by the library's sums, by numbers that never wrap, and bit by bit.

// low is a number modulo 65536, never below 0.
func low(n *big.Int) uint32 { return uint32(new(big.Int).Mod(n, big.NewInt(65536)).Uint64()) }

// slowWeak is the weak sum as its words have it.
func slowWeak(s string) uint32 {
	a, b := new(big.Int), new(big.Int)
	for i := range len(s) {
		a.Add(a, big.NewInt(int64(s[i])))
		b.Add(b, big.NewInt(int64(len(s)-i)*int64(s[i])))
	}
	return low(a) + 65536*low(b)
}

// slowRoll is a rolled sum as its words have it.
func slowRoll(w uint32, n int, out, in byte) uint32 {
	a := big.NewInt(int64(w%65536) - int64(out) + int64(in))
	gone := new(big.Int).Mul(big.NewInt(int64(n)), big.NewInt(int64(out)))
	b := new(big.Int).Sub(big.NewInt(int64(w/65536)), gone)
	return low(a) + 65536*low(b.Add(b, big.NewInt(int64(low(a)))))
}

// slowCrc takes bit by bit.
func slowCrc(s string) uint32 {
	register := uint32(math.MaxUint32)
	for i := range len(s) {
		for bit := range 8 {
			out := register&1 != uint32(s[i]>>bit)&1
			register >>= 1
			if out {
				register ^= 0xedb88320
			}
		}
	}
	return ^register
}

// P4.1: Sum, Weak, Crc and Hex of many texts.
func TestAsSlow(t *testing.T) {
	for _, s := range someTexts() {
		if sum := sha256.Sum256([]byte(s)); hash.Sum(s) != string(sum[:]) {
			t.Errorf("Sum of %d bytes %.20q is %x", len(s), s, hash.Sum(s))
		}
		if hash.Weak(s) != slowWeak(s) {
			t.Errorf("Weak of %d bytes %.20q is %d", len(s), s, hash.Weak(s))
		}
		if hash.Crc(s) != slowCrc(s) || hash.Crc(s) != crc32.ChecksumIEEE([]byte(s)) {
			t.Errorf("Crc of %d bytes %.20q is %08x", len(s), s, hash.Crc(s))
		}
		if hash.Hex(s) != hex.EncodeToString([]byte(s)) {
			t.Errorf("Hex of %d bytes %.20q is %.40q", len(s), s, hash.Hex(s))
		}
	}
}

// P4.1: Roll of any numbers.
func TestRollAsSlow(t *testing.T) {
	dice := rand.New(rand.NewSource(41))
	sizes := []int{0, 1, -1, 2, 255, 256, 65535, 65536, 65537, -65536, 1 << 31, 1<<32 + 3, -1 << 40, math.MaxInt, math.MinInt}
	sums := []uint32{0, 1, 65535, 65536, 65537, 1 << 31, math.MaxUint32 - 1, math.MaxUint32}
	for range 20 {
		sizes, sums = append(sizes, int(dice.Uint64())), append(sums, dice.Uint32())
	}
	for _, w := range sums {
		for _, n := range sizes {
			for _, x := range [][2]byte{{0, 0}, {0, 1}, {1, 0}, {255, 0}, {0, 255}, {255, 255}, {byte(dice.Intn(256)), byte(dice.Intn(256))}} {
				if got, want := hash.Roll(w, n, x[0], x[1]), slowRoll(w, n, x[0], x[1]); got != want {
					t.Fatalf("Roll(%d, %d, %d, %d) is %d, not %d", w, n, x[0], x[1], got, want)
				}
			}
		}
	}
}
