package arch_test

import (
	"bytes"
	"crypto/sha256"
	"encoding/binary"
	"encoding/hex"
	"errors"
	"hash/crc32"
	"io"
	"reflect"
	"regexp"

	"hawser/api"
	"hawser/tree"
)

// The same answers by other means than the program's: by the library's numbers, fingerprints and check sum; what is decoded is read without care, and then written again.

var digits64 = regexp.MustCompile(`\A[0-9a-f]{64}\z`)

// slowPrint is a fingerprint's digits.
func slowPrint(data string) string {
	sum := sha256.Sum256([]byte(data))
	return hex.EncodeToString(sum[:])
}

// slowBare is Bare of a tree.
func slowBare(t []api.Node) []api.Node {
	var bare []api.Node
	for _, n := range t {
		if n.Kind == 1 || n.Kind == 3 {
			n.Data = slowPrint(n.Data)
		}
		bare = append(bare, n)
	}
	return bare
}

// slowIsBare is IsBare.
func slowIsBare(t []api.Node) bool {
	for _, n := range t {
		if (n.Kind == 2) == digits64.MatchString(n.Data) {
			return false
		}
	}
	return tree.Check(t) == api.OK
}

// slowRight says what an archive that is right is.
func slowRight(a api.Archive) bool {
	right := a.Pair != "" && len(a.Pair) < 65 && a.Serial >= 0 && len(a.Stamps) == len(a.Tree)
	for _, s := range a.Stamps {
		right = right && s.Ino >= 0 && s.Size >= 0 && s.Time >= 0
	}
	return right && slowIsBare(a.Tree)
}

// slowMatch is Match.
func slowMatch(a, b api.Archive) bool {
	right := slowRight(a) && slowRight(b)
	a.Stamps, b.Stamps = nil, nil
	return right && sameArchive(a, b)
}

// sameArchive says whether two archives are the same; an empty list is none.
func sameArchive(a, b api.Archive) bool {
	return reflect.DeepEqual(noEmpty(a), noEmpty(b))
}

func noEmpty(a api.Archive) api.Archive {
	if len(a.Tree) == 0 {
		a.Tree = nil
	}
	if len(a.Stamps) == 0 {
		a.Stamps = nil
	}
	return a
}

// payload is the numbers and the texts that it is handed, in the forms of layer 3.
func payload(parts ...any) string {
	var all []byte
	for _, part := range parts {
		switch part := part.(type) {
		case int:
			all = binary.AppendUvarint(all, uint64(part))
		case string:
			all = append(binary.AppendUvarint(all, uint64(len(part))), part...)
		}
	}
	return string(all)
}

// record is the record of a payload.
func record(payload string) string {
	length := binary.BigEndian.AppendUint32(nil, uint32(len(payload)))
	sum := crc32.ChecksumIEEE([]byte(string(length) + payload))
	return string(binary.BigEndian.AppendUint32(length, sum)) + payload
}

// slowPayload is what an archive's record holds, be it right or not.
func slowPayload(a api.Archive) string {
	parts := []any{"hawser 1", a.Pair, a.Serial, len(a.Tree)}
	for i, n := range a.Tree {
		s := a.Stamps[i]
		parts = append(parts, n.Path, n.Kind, n.Mode, n.Data, s.Ino, s.Size, s.Time)
	}
	return payload(parts...)
}

// slowEncode is Encode.
func slowEncode(a api.Archive) (string, api.Errno) {
	if !slowRight(a) {
		return "", 90
	}
	return record(slowPayload(a)), 0
}

// slowDecode is Decode: whatever is read, if it is written as the same bytes, is what they tell.
func slowDecode(s string) (api.Archive, api.Errno) {
	if len(s) >= 8 {
		a, e := loosely(bytes.NewReader([]byte(s[8:])))
		if again, _ := slowEncode(a); e == nil && again == s {
			return a, 0
		}
	}
	return api.Archive{}, 90
}

// loosely reads a payload, whatever its limits and the ways in which its numbers are written.
func loosely(r *bytes.Reader) (api.Archive, error) {
	var first error
	num := func() int {
		n, e := binary.ReadUvarint(r)
		first = cmpError(first, e)
		return int(n)
	}
	text := func() string {
		n := num()
		if n < 0 || n > r.Len() {
			first = cmpError(first, errors.New("too long"))
			return ""
		}
		all := make([]byte, n)
		_, e := io.ReadFull(r, all)
		first = cmpError(first, e)
		return string(all)
	}
	var a api.Archive
	text()
	a.Pair = text()
	a.Serial = num()
	for n := num(); n > 0 && first == nil; n-- {
		var at api.Node
		at.Path = text()
		at.Kind = num()
		at.Mode = num()
		at.Data = text()
		a.Tree = append(a.Tree, at)
		var s api.Stamp
		s.Ino = num()
		s.Size = num()
		s.Time = num()
		a.Stamps = append(a.Stamps, s)
	}
	return a, first
}

// cmpError is the first error of two.
func cmpError(a, b error) error {
	if a != nil {
		return a
	}
	return b
}
