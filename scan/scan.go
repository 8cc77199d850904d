// Package scan reads numbers and bytes from the left, up to the first that may not be.
package scan

import (
	"overdrive/api"
	"overdrive/word"
)

const longest = 10 // bytes of a number

// Reader goes through bytes. Behind the first that may not be it reads nothing any more: 0 each time.
type Reader struct {
	b   []byte
	at  int
	err error
}

// New is a reader at the first of some bytes, which stay as they are as long as it reads them.
func New(b []byte) *Reader { return &Reader{b: b} }

// Good tells whether all that was read may be.
func (r *Reader) Good() bool { return r.err == nil }

// More tells whether there is anything left that may be read.
func (r *Reader) More() bool { return r.err == nil && r.at < len(r.b) }

// Err is the first thing that may not be, around its place.
func (r *Reader) Err() error { return r.err }

// End asks that nothing is left, and answers Err.
func (r *Reader) End() error {
	if r.More() {
		r.fail(r.at, api.ErrByte)
	}
	return r.err
}

func (r *Reader) fail(at int, err error) {
	if r.err == nil {
		r.err = &api.At{Pos: at, Err: err}
	}
}

// Wide reads a number of up to 64 bits.
func (r *Reader) Wide() uint64 {
	if r.err != nil {
		return 0
	}
	u, next, is := word.Take(r.b, r.at)
	switch {
	case is:
		r.at = next
	case r.cut():
		r.fail(len(r.b), api.ErrEnd)
	default:
		r.fail(r.at, api.ErrByte)
	}
	return u
}

// cut tells whether the bytes end within the number, ahead of its last byte that might be.
func (r *Reader) cut() bool {
	rest := r.b[r.at:]
	for _, x := range rest {
		if x < 128 {
			return false
		}
	}
	return len(rest) < longest
}

// Number reads a number of at least least, and at most most.
func (r *Reader) Number(least, most int) int {
	at := r.at
	u := r.Wide()
	if u < uint64(least) || u > uint64(most) {
		r.fail(at, api.ErrByte)
	}
	if r.err != nil {
		return 0
	}
	return int(u)
}

// Byte reads a byte that is one of those that may be.
func (r *Reader) Byte(may func(x byte) bool) byte {
	switch {
	case r.err != nil:
	case r.at >= len(r.b):
		r.fail(len(r.b), api.ErrEnd)
	case !may(r.b[r.at]):
		r.fail(r.at, api.ErrByte)
	default:
		r.at++
		return r.b[r.at-1]
	}
	return 0
}
