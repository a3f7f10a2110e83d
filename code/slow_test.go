package code_test

import (
	"encoding/binary"
	"math/big"

	"hawser/api"
	"hawser/code"
)

// What a reader answers, told by other means than the program's: by the library's numbers of seven bits a byte, and by a place in a text that is kept whole.

type slowReader struct {
	text  string
	at    int
	fault api.Errno
}

// number is the number at the place, the place behind it, and its fault.
func (s *slowReader) number() (int, int, api.Errno) {
	near := []byte(s.text[s.at:min(s.at+9, len(s.text))])
	value, width := binary.Uvarint(near)
	switch {
	case width > 0 && string(binary.AppendUvarint(nil, value)) != string(near[:width]):
		return 0, 0, api.ErrForm
	case width > 0:
		return int(value), s.at + width, api.OK
	case len(near) == 9:
		return 0, 0, api.ErrForm
	}
	return 0, 0, api.ErrShort
}

func (s *slowReader) num() int {
	value, behind, e := s.number()
	if e == api.OK {
		s.at = behind
	}
	s.fault = e
	return value
}

func (s *slowReader) readText(most int) string {
	size, behind, e := s.number()
	switch {
	case e != api.OK:
	case size > most:
		e = api.ErrMore
	case size > len(s.text)-behind:
		e = api.ErrShort
	default:
		s.at = behind + size
		return s.text[behind:s.at]
	}
	s.fault = e
	return ""
}

func (s *slowReader) flag() bool {
	rest := s.text[s.at:]
	if rest == "" {
		s.fault = api.ErrShort
	} else if rest[0] > 1 {
		s.fault = api.ErrForm
	} else {
		s.at++
		return rest[0] == 1
	}
	return false
}

func (s *slowReader) count(most, least int) int {
	n, behind, e := s.number()
	if e == api.OK && n > most {
		e = api.ErrMore
	}
	if e == api.OK && tooMany(n, least, len(s.text)-behind) {
		e = api.ErrShort
	}
	s.fault = e
	if e != api.OK {
		return 0
	}
	s.at = behind
	return n
}

// tooMany tells whether n things of least bytes each are more than there is; such a product has no bound here.
func tooMany(n, least, left int) bool {
	asked := big.NewInt(int64(max(least, 1)))
	asked.Mul(asked, big.NewInt(int64(n)))
	return asked.Cmp(big.NewInt(int64(left))) > 0
}

func (s *slowReader) left() int { return len(s.text) - s.at }

func (s *slowReader) end() api.Errno {
	if s.fault == api.OK && s.left() > 0 {
		return api.ErrMore
	}
	return s.fault
}

// call is a call of a reader, with its arguments.
type call struct {
	name        string
	most, least int
}

// answer is what a call answers, and what Left and End tell behind it.
type answer struct {
	n    int
	text string
	flag bool
	left int
	end  api.Errno
}

func (c call) ask(r *code.Reader) answer {
	var a answer
	switch c.name {
	case "Num":
		a.n = r.Num()
	case "Text":
		a.text = r.Text(c.most)
	case "Flag":
		a.flag = r.Flag()
	case "Count":
		a.n = r.Count(c.most, c.least)
	}
	a.left, a.end = r.Left(), r.End()
	return a
}

func (c call) askSlowly(s *slowReader) answer {
	var a answer
	switch {
	case s.fault != api.OK:
	case c.name == "Num":
		a.n = s.num()
	case c.name == "Text":
		a.text = s.readText(c.most)
	case c.name == "Flag":
		a.flag = s.flag()
	case c.name == "Count":
		a.n = s.count(c.most, c.least)
	}
	a.left, a.end = s.left(), s.end()
	return a
}

// write writes what the call has answered.
func (c call) write(a answer) string {
	switch c.name {
	case "Text":
		return code.Text(a.text)
	case "Flag":
		return code.Flag(a.flag)
	}
	return code.Num(a.n)
}
