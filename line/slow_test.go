package line_test

import (
	"encoding/binary"
	"hash/crc32"
	"strings"

	"hawser/api"
)

// The same answers by other means than the program's: frames by the library's numbers and check sum, bytes one by one, and frames that are told by being made anew.

const mostBytes = 1048576

// slowFrame is a frame as the chapter's words have it.
func slowFrame(number uint32, payload string) string {
	frame := binary.BigEndian.AppendUint32(nil, uint32(len(payload)))
	frame = binary.BigEndian.AppendUint32(frame, crc32.ChecksumIEEE(frame))
	message := crc32.NewIEEE()
	binary.Write(message, binary.BigEndian, number)
	message.Write([]byte(payload))
	return string(append(message.Sum(frame), payload...))
}

// slowPack is frames one behind the other.
func slowPack(payloads ...string) string {
	var all strings.Builder
	for n, p := range payloads {
		all.WriteString(slowFrame(uint32(n), p))
	}
	return all.String()
}

// slowCarry hands on byte by byte.
func slowCarry(s string, f api.Fault) string {
	var came []byte
	for at := range len(s) {
		switch {
		case at == f.Cut:
			return string(came)
		case at == f.Flip:
			came = append(came, s[at]&^f.By|f.By&^s[at])
		default:
			came = append(came, s[at])
		}
	}
	return string(came)
}

// slowRead makes of what may be a payload the frame that it would have, and holds that against what is left.
func slowRead(s string) ([]string, api.Errno) {
	var payloads []string
	for s != "" {
		if len(s) < 12 {
			return payloads, api.ErrLink
		}
		size := uint64(binary.BigEndian.Uint32([]byte(s)))
		if size > mostBytes || 12+size > uint64(len(s)) {
			return payloads, api.ErrLink
		}
		frame := slowFrame(uint32(len(payloads)), s[12:12+size])
		if !strings.HasPrefix(s, frame) {
			return payloads, api.ErrLink
		}
		payloads, s = append(payloads, frame[12:]), s[len(frame):]
	}
	return payloads, api.OK
}

// slowComes is how many messages come, and the error beside them, told of what was sent and of the fault alone: those whose frames end ahead of the cut and of a turned byte.
func slowComes(payloads []string, f api.Fault) (int, api.Errno) {
	ends := []int{0}
	for _, p := range payloads {
		ends = append(ends, ends[len(ends)-1]+12+len(p))
	}
	all := ends[len(payloads)]
	if f.Cut < 0 || f.Cut > all {
		f.Cut = all
	}
	whole := f.By == 0 || f.Flip < 0 || f.Flip >= f.Cut
	n := 0
	for n < len(payloads) && ends[n+1] <= f.Cut && (whole || ends[n+1] <= f.Flip) {
		n++
	}
	if whole && ends[n] == f.Cut {
		return n, api.OK
	}
	return n, api.ErrLink
}

// forced is four bytes that make the check sum of all ahead of them, with them, the one that is asked for: the register is gone back through from its end.
func forced(ahead string, want uint32) string {
	register := ^want
	for range 32 {
		out := register >> 31
		register = (register^0xedb88320*out)<<1 | out
	}
	register ^= ^crc32.ChecksumIEEE([]byte(ahead))
	return string(binary.LittleEndian.AppendUint32(nil, register))
}
