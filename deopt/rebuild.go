package deopt

import (
	"overdrive/api"
	"overdrive/frames"
	"overdrive/heap"
	"overdrive/prog"
	"overdrive/verify"
)

// Rebuild makes the objects and the frames of a record.
func Rebuild(v *verify.Info, h *heap.Heap, s *frames.Stack, r Record, values []frames.Slot) error {
	if err := May(v, r, len(values)); err != nil {
		return err
	}
	return RebuildAny(v, h, s, r, values)
}

// RebuildAny is Rebuild of a record with however many frames and objects.
func RebuildAny(v *verify.Info, h *heap.Heap, s *frames.Stack, r Record, values []frames.Slot) error {
	c := &checker{v: v, p: v.Program(), r: r, may: func(n int, ref bool) bool {
		return n >= 0 && n < len(values) && values[n].Ref == ref && (!ref || isObject(h, values[n].N))
	}}
	if err := c.check(); err != nil {
		return err
	}
	if _, old := h.Room(); Words(h, r) > old || !s.Fits(Methods(r)...) {
		return api.ErrRoom
	}
	m := &maker{heap: h, stack: s, values: values}
	m.virtuals(r.Virtuals)
	for i, f := range r.Frames {
		stack, _ := v.Stack(f.Method, f.PC)
		m.frame(f, c.p.Methods[f.Method], stack, i+1 < len(r.Frames))
	}
	return nil
}

func isObject(h *heap.Heap, n int64) bool {
	if n == 0 {
		return true
	}
	_, _, is := h.Is(int(n))
	return is
}

// Words is how many words a record's objects take.
func Words(h *heap.Heap, r Record) int {
	words := 0
	for _, x := range r.Virtuals {
		n, _ := h.Need(x.Class, 0)
		words += n
	}
	return words
}

// Methods is the methods of a record's frames.
func Methods(r Record) []int {
	var out []int
	for _, f := range r.Frames {
		out = append(out, f.Method)
	}
	return out
}

// maker makes what a record tells.
type maker struct {
	heap   *heap.Heap
	stack  *frames.Stack
	values []frames.Slot
	made   []int // the virtual objects
}

// virtuals makes all objects ahead of any field, since they may name one another.
func (m *maker) virtuals(l []Virtual) {
	for _, x := range l {
		r, _ := m.heap.Old(x.Class, 0)
		m.made = append(m.made, r)
	}
	for k, x := range l {
		for i, slot := range x.Fields {
			m.heap.Put(m.made[k], i, m.slot(slot, false).N)
		}
	}
}

func (m *maker) slot(x Slot, ref bool) frames.Slot {
	switch x.Kind {
	case Value:
		return m.values[x.N]
	case Object:
		return frames.Slot{Ref: true, N: int64(m.made[x.N])}
	case Integer:
		return frames.Slot{N: int64(x.N)}
	}
	return frames.Slot{Ref: ref}
}

func (m *maker) slots(l []Slot, kinds string) []frames.Slot {
	var out []frames.Slot
	for i, x := range l {
		out = append(out, m.slot(x, kinds[i] == 'R'))
	}
	return out
}

// frame pushes a frame: at its PC, or (of one beneath another) behind its Call.
func (m *maker) frame(f Frame, x api.Method, stack string, behind bool) {
	locals := m.slots(f.Locals, prog.Kinds(x))
	m.stack.Push(f.Method, locals[:len(x.Params)])
	for i, slot := range locals {
		m.stack.SetLocal(i, slot)
	}
	for _, slot := range m.slots(f.Stack, stack) {
		m.stack.Lay(slot)
	}
	pc := f.PC
	if behind {
		pc++
	}
	m.stack.Jump(pc)
}
