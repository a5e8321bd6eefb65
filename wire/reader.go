package wire

import (
	"transhumance/api"
)

// state is all that a reader keeps: in one piece, so that a call that fails half way can lay it back.
type state struct {
	text string
	at   int
	err  api.Errno
}

// Reader reads numbers and strings, one after the other, up to its first error.
type Reader struct {
	state
}

// New returns a reader of s that stands at its first byte.
func New(s string) *Reader {
	return &Reader{state{text: s}}
}

// Number reads a varint of at most most.
func (r *Reader) Number(most int) int {
	if !r.reads() {
		return 0
	}
	n, after, e := Get(r.text, r.at)
	if e == api.OK && n > most {
		e = api.ErrWide
	}
	return r.take(n, after, e)
}

// Fixed reads a number of four bytes.
func (r *Reader) Fixed() int {
	if !r.reads() {
		return 0
	}
	return r.take(GetFixed(r.text, r.at))
}

// Text reads a string of at most most bytes behind its length.
func (r *Reader) Text(most int) string {
	if !r.reads() {
		return ""
	}
	before := r.state
	many := r.Number(most)
	if !r.reads() {
		return ""
	}
	if many > r.Left() {
		r.state = before // the error's position is the length's
		r.err = api.ErrCut
		return ""
	}
	start := r.at
	r.at += many
	return r.text[start:r.at]
}

// Left returns how many bytes are still to be read.
func (r *Reader) Left() int {
	if !r.reads() {
		return 0
	}
	return len(r.text) - r.at
}

// Error returns the first error and the position of what could not be read.
func (r *Reader) Error() (api.Errno, int) {
	switch {
	case r == nil:
		return api.ErrArg, 0
	case r.err == api.OK:
		return api.OK, 0
	}
	return r.err, r.at
}

// reads reports whether there is a reader, and one without an error.
func (r *Reader) reads() bool {
	return r != nil && r.err == api.OK
}

// take moves after a number that was read; an error stays where the reader stands.
func (r *Reader) take(n, after int, e api.Errno) int {
	if e != api.OK {
		r.err = e
		return 0
	}
	r.at = after
	return n
}
