package deopt

import (
	"math"

	"overdrive/api"
	"overdrive/word"
)

const maxList = 200

// Bytes is the bytes of a record.
func Bytes(r Record) ([]byte, error) {
	w := &writer{}
	w.count(len(r.Frames))
	for _, f := range r.Frames {
		w.number(f.Method)
		w.number(f.PC)
		w.slots(f.Locals)
		w.slots(f.Stack)
	}
	w.count(len(r.Virtuals))
	for _, x := range r.Virtuals {
		w.number(x.Class)
		w.slots(x.Fields)
	}
	switch {
	case w.many:
		return nil, api.ErrMany
	case w.wrong:
		return nil, api.ErrState
	}
	return w.b, nil
}

// writer writes numbers, and takes down what goes beyond its bounds.
type writer struct {
	b           []byte
	many, wrong bool
}

func (w *writer) count(n int) {
	w.many = w.many || n > maxList
	w.b = word.Put(w.b, uint64(n))
}

func (w *writer) number(n int) {
	w.wrong = w.wrong || n < 0 || n > math.MaxInt32
	w.b = word.Put(w.b, uint64(n))
}

func (w *writer) slots(l []Slot) {
	w.count(len(l))
	if w.many {
		return
	}
	for _, x := range l {
		w.number(x.Kind)
		if x.Kind != Integer {
			w.number(x.N)
			continue
		}
		w.wrong = w.wrong || x.N < math.MinInt32 || x.N > math.MaxInt32
		w.b = word.Put(w.b, word.Zig(int64(x.N)))
	}
}

// Read is the record of these bytes.
func Read(b []byte) (Record, error) {
	r := &reader{b: b}
	var out Record
	n := r.number(maxList)
	for k := 0; k < n && r.err == nil; k++ {
		out.Frames = append(out.Frames, Frame{Method: r.number(math.MaxInt32), PC: r.number(math.MaxInt32), Locals: r.slots(), Stack: r.slots()})
	}
	n = r.number(maxList)
	for k := 0; k < n && r.err == nil; k++ {
		out.Virtuals = append(out.Virtuals, Virtual{Class: r.number(math.MaxInt32), Fields: r.slots()})
	}
	if r.err == nil && r.at < len(b) {
		r.err = &api.At{Pos: r.at, Err: api.ErrByte}
	}
	if r.err != nil {
		return Record{}, r.err
	}
	return out, nil
}

// reader goes through bytes, number by number, up to the first that may not be.
type reader struct {
	b   []byte
	at  int
	err error
}

func (r *reader) number(most int) int {
	if r.err != nil {
		return 0
	}
	u, next, is := word.Take(r.b, r.at)
	switch {
	case is && u <= uint64(most):
		r.at = next
		return int(u)
	case !is && r.cut():
		r.err = &api.At{Pos: len(r.b), Err: api.ErrEnd}
	default:
		r.err = &api.At{Pos: r.at, Err: api.ErrByte}
	}
	return 0
}

// cut tells whether the bytes end within the number, ahead of its tenth byte.
func (r *reader) cut() bool {
	rest := r.b[r.at:]
	for _, x := range rest {
		if x < 128 {
			return false
		}
	}
	return len(rest) < 10
}

func (r *reader) slots() []Slot {
	n := r.number(maxList)
	var out []Slot
	for k := 0; k < n && r.err == nil; k++ {
		x := Slot{Kind: r.number(math.MaxInt32)}
		if x.Kind == Integer {
			x.N = int(word.Zag(uint64(r.number(math.MaxUint32))))
		} else {
			x.N = r.number(math.MaxInt32)
		}
		out = append(out, x)
	}
	return out
}
