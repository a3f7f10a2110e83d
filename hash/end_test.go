package hash

import "testing"

// P4.1: a text of 2^29 bytes has more bits than 32 bits tell. It is too great to be summed by a test, so the end of its last block is looked at.
func TestEndTellsAllBits(t *testing.T) {
	for _, x := range []struct {
		size int
		want string
	}{
		{0, "\x00\x00\x00\x00\x00\x00\x00\x00"}, {64, "\x00\x00\x00\x00\x00\x00\x02\x00"}, {1<<29 - 64, "\x00\x00\x00\x00\xff\xff\xfe\x00"},
		{1 << 29, "\x00\x00\x00\x01\x00\x00\x00\x00"}, {1<<29 + 64, "\x00\x00\x00\x01\x00\x00\x02\x00"}, {1<<31 - 64, "\x00\x00\x00\x03\xff\xff\xfe\x00"},
	} {
		last := end("", x.size)
		if len(last) != wide || last[0] != 0x80 || last[wide-count:] != x.want {
			t.Errorf("behind %d bytes comes %x", x.size, last)
		}
	}
}
