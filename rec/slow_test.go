package rec_test

import (
	"bytes"
	"encoding/binary"
	"hash/crc32"
	"io"

	"hawser/api"
)

// The same answers by other means than the program's: by the library's numbers, its check sum and its reader of bytes.

const mostBytes = 1048576

// slowPack is a record as the chapter's words have it.
func slowPack(payload string) string {
	length := binary.BigEndian.AppendUint32(nil, uint32(len(payload)))
	told := crc32.NewIEEE()
	told.Write(length)
	told.Write([]byte(payload))
	return string(length) + string(told.Sum(nil)) + payload
}

// slowJoin is records one behind the other.
func slowJoin(payloads ...string) string {
	var all []byte
	for _, p := range payloads {
		all = append(all, slowPack(p)...)
	}
	return string(all)
}

// slowNext reads forward, and tells what it comes upon.
func slowNext(s string) (string, string, api.Errno) {
	from := bytes.NewReader([]byte(s))
	var ahead struct{ Length, Sum uint32 }
	if binary.Read(from, binary.BigEndian, &ahead) != nil {
		return "", "", api.ErrCut
	}
	if uint64(ahead.Length) > mostBytes {
		return "", "", api.ErrMore
	}
	payload := make([]byte, ahead.Length)
	if _, e := io.ReadFull(from, payload); e != nil {
		return "", "", api.ErrCut
	}
	if record := slowPack(string(payload)); record != s[:len(record)] {
		return "", "", api.ErrSum
	}
	behind, _ := io.ReadAll(from)
	return string(payload), string(behind), api.OK
}

// slowOne is told by what stands behind.
func slowOne(s string) (string, api.Errno) {
	payload, behind, e := slowNext(s)
	if e == api.OK && len(behind) > 0 {
		return "", api.ErrMore
	}
	return payload, e
}

// slowAll calls itself for what stands behind the first record.
func slowAll(s string) ([]string, int, api.Errno) {
	if len(s) == 0 {
		return nil, 0, api.OK
	}
	payload, behind, e := slowNext(s)
	if e != api.OK {
		return nil, 0, e
	}
	more, at, e := slowAll(behind)
	return append([]string{payload}, more...), len(s) - len(behind) + at, e
}

// forced is four bytes that make the check sum of all ahead of them, with them, the one that is asked for: the register is gone back through from its end.
func forced(ahead string, want uint32) string {
	register := ^want
	for range 32 {
		out := register >> 31
		register = (register^0xedb88320*out)<<1 | out
	}
	register ^= ^crc32.ChecksumIEEE([]byte(ahead))
	return string(binary.LittleEndian.AppendUint32(nil, register))
}
