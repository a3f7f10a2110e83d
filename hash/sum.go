package hash

import "math/bits"

const (
	wide  = 64 // bytes of a block
	count = 8  // bytes of the number of bits that ends the last block
)

// state is what the blocks are worked into: an array, so that each step works on a copy of what it is handed, and the first state stays as it is written below.
type state [8]uint32

// begun is the square roots of the first 8 primes: of each the first 32 bits behind the point.
var begun = state{
	0x6a09e667, 0xbb67ae85, 0x3c6ef372, 0xa54ff53a, 0x510e527f, 0x9b05688c, 0x1f83d9ab, 0x5be0cd19,
}

// rounds is the cube roots of the first 64 primes: of each the first 32 bits behind the point.
var rounds = [64]uint32{
	0x428a2f98, 0x71374491, 0xb5c0fbcf, 0xe9b5dba5, 0x3956c25b, 0x59f111f1, 0x923f82a4, 0xab1c5ed5,
	0xd807aa98, 0x12835b01, 0x243185be, 0x550c7dc3, 0x72be5d74, 0x80deb1fe, 0x9bdc06a7, 0xc19bf174,
	0xe49b69c1, 0xefbe4786, 0x0fc19dc6, 0x240ca1cc, 0x2de92c6f, 0x4a7484aa, 0x5cb0a9dc, 0x76f988da,
	0x983e5152, 0xa831c66d, 0xb00327c8, 0xbf597fc7, 0xc6e00bf3, 0xd5a79147, 0x06ca6351, 0x14292967,
	0x27b70a85, 0x2e1b2138, 0x4d2c6dfc, 0x53380d13, 0x650a7354, 0x766a0abb, 0x81c2c92e, 0x92722c85,
	0xa2bfe8a1, 0xa81a664b, 0xc24b8b70, 0xc76c51a3, 0xd192e819, 0xd6990624, 0xf40e3585, 0x106aa070,
	0x19a4c116, 0x1e376c08, 0x2748774c, 0x34b0bcb5, 0x391c0cb3, 0x4ed8aa4a, 0x5b9cca4f, 0x682e6ff3,
	0x748f82ee, 0x78a5636f, 0x84c87814, 0x8cc70208, 0x90befffa, 0xa4506ceb, 0xbef9a3f7, 0xc67178f2,
}

// Sum answers the fingerprint of s.
func Sum(s string) string {
	worked := begun
	whole := len(s) / wide * wide
	worked = worked.after(s[:whole])
	worked = worked.after(end(s[whole:], len(s)))
	return worked.text()
}

// end is what the last blocks are: the rest of a text, and how many bits the text has.
func end(rest string, size int) string {
	last := append([]byte(rest), 0x80)
	for len(last)%wide != wide-count {
		last = append(last, 0)
	}
	number := uint64(size) * 8
	for high := count - 1; high >= 0; high-- {
		last = append(last, byte(number>>(8*high)))
	}
	return string(last)
}

// after is the state behind these blocks.
func (s state) after(blocks string) state {
	for ; blocks != ""; blocks = blocks[wide:] {
		s = s.behind(blocks[:wide])
	}
	return s
}

// behind is the state behind one block. The letters are the standard's.
func (s state) behind(block string) state {
	words := schedule(block)
	a, b, c, d, e, f, g, h := s[0], s[1], s[2], s[3], s[4], s[5], s[6], s[7]
	for i := range words {
		first := h + mix(e, 6, 11, 25) + (e&f ^ ^e&g) + rounds[i] + words[i]
		second := mix(a, 2, 13, 22) + (a&b ^ a&c ^ b&c)
		a, b, c, d, e, f, g, h = first+second, a, b, c, d+first, e, f, g
	}
	return s.plus(state{a, b, c, d, e, f, g, h})
}

// plus is the sums of both, word by word.
func (s state) plus(t state) state {
	for i := range s {
		s[i] += t[i]
	}
	return s
}

// mix is a word turned to the right in three ways, laid over one another.
func mix(word uint32, x, y, z int) uint32 {
	return bits.RotateLeft32(word, -x) ^ bits.RotateLeft32(word, -y) ^ bits.RotateLeft32(word, -z)
}

// schedule is a block's 16 words, and those for the other rounds, each made of four ahead of it.
func schedule(block string) [64]uint32 {
	var words [64]uint32
	for i := range 16 {
		at := 4 * i
		words[i] = uint32(block[at])<<24 | uint32(block[at+1])<<16 | uint32(block[at+2])<<8 | uint32(block[at+3])
	}
	for i := 16; i < len(words); i++ {
		near, far := words[i-2], words[i-15]
		near = bits.RotateLeft32(near, -17) ^ bits.RotateLeft32(near, -19) ^ near>>10
		far = bits.RotateLeft32(far, -7) ^ bits.RotateLeft32(far, -18) ^ far>>3
		words[i] = near + words[i-7] + far + words[i-16]
	}
	return words
}

// text is the words as bytes, the highest first.
func (s state) text() string {
	var written []byte
	for _, word := range s {
		written = append(written, byte(word>>24), byte(word>>16), byte(word>>8), byte(word))
	}
	return string(written)
}
