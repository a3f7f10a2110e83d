package line

import (
	"strings"

	"hawser/api"
)

// reader takes frames off what is left.
type reader struct {
	rest
	payloads []string
}

// readAll takes frames as far as they are right, and tells whether nothing else is left.
func (r *reader) readAll() bool {
	for !r.over() {
		payload, right := r.takeFrame()
		if !right {
			return false
		}
		// Copied, so that a payload that is kept does not keep all that came with it.
		r.payloads = append(r.payloads, strings.Clone(payload))
	}
	return true
}

// takeFrame takes the frame of the next message, and answers its payload and whether it is right.
func (r *reader) takeFrame() (string, bool) {
	ahead, whole := r.take(head)
	if !whole {
		return "", false
	}
	length, lengthSum, told := ahead[:word], ahead[word:2*word], ahead[2*word:]
	// Held against the limit ahead of being made an int, which it may not fit in.
	if lengthSum != sum(length) || read(length) > api.MaxRec {
		return "", false
	}
	payload, whole := r.take(int(read(length)))
	if !whole || told != messageSum(uint32(len(r.payloads)), payload) {
		return "", false
	}
	return payload, true
}

// rest is what is left of a text.
type rest struct {
	left string
}

// over tells whether nothing is left.
func (r *rest) over() bool { return r.left == "" }

// take takes so many bytes off, and tells whether there were so many.
func (r *rest) take(size int) (string, bool) {
	if size > len(r.left) {
		return "", false
	}
	taken := r.left[:size]
	r.left = r.left[size:]
	return taken, true
}
