package deopt

import (
	"math"

	"overdrive/api"
	"overdrive/scan"
	"overdrive/word"
)

const maxList = 200

// Bytes is the bytes of a record.
func Bytes(r Record) ([]byte, error) {
	w := &writer{}
	w.count(len(r.Frames))
	for _, f := range r.Frames {
		w.number(f.Method)
		w.number(f.PC)
		w.slots(f.Locals)
		w.slots(f.Stack)
	}
	w.count(len(r.Virtuals))
	for _, x := range r.Virtuals {
		w.number(x.Class)
		w.slots(x.Fields)
	}
	switch {
	case w.many:
		return nil, api.ErrMany
	case w.wrong:
		return nil, api.ErrState
	}
	return w.b, nil
}

// writer writes numbers, and takes down what goes beyond its bounds.
type writer struct {
	b           []byte
	many, wrong bool
}

func (w *writer) count(n int) {
	w.many = w.many || n > maxList
	w.b = word.Put(w.b, uint64(n))
}

func (w *writer) number(n int) {
	w.wrong = w.wrong || n < 0 || n > math.MaxInt32
	w.b = word.Put(w.b, uint64(n))
}

func (w *writer) slots(l []Slot) {
	w.count(len(l))
	if w.many {
		return
	}
	for _, x := range l {
		w.number(x.Kind)
		if x.Kind != Integer {
			w.number(x.N)
			continue
		}
		w.wrong = w.wrong || x.N < math.MinInt32 || x.N > math.MaxInt32
		w.b = word.Put(w.b, word.Zig(int64(x.N)))
	}
}

// Read is the record of these bytes.
func Read(b []byte) (Record, error) {
	r := reader{scan.New(b)}
	var out Record
	n := r.Number(0, maxList)
	for k := 0; k < n && r.Good(); k++ {
		out.Frames = append(out.Frames, Frame{Method: r.number(), PC: r.number(), Locals: r.slots(), Stack: r.slots()})
	}
	n = r.Number(0, maxList)
	for k := 0; k < n && r.Good(); k++ {
		out.Virtuals = append(out.Virtuals, Virtual{Class: r.number(), Fields: r.slots()})
	}
	if err := r.End(); err != nil {
		return Record{}, err
	}
	return out, nil
}

// reader reads the parts of a record.
type reader struct{ *scan.Reader }

func (r reader) number() int { return r.Number(0, math.MaxInt32) }

func (r reader) slots() []Slot {
	n := r.Number(0, maxList)
	var out []Slot
	for k := 0; k < n && r.Good(); k++ {
		x := Slot{Kind: r.number()}
		if x.Kind == Integer {
			x.N = int(word.Zag(uint64(r.Number(0, math.MaxUint32))))
		} else {
			x.N = r.number()
		}
		out = append(out, x)
	}
	return out
}
