package engine

import (
	"slices"

	"overdrive/api"
	"overdrive/deopt"
	"overdrive/emit"
	"overdrive/frames"
	"overdrive/interp"
	"overdrive/live"
)

// Top is the code on top, and its op, if it is one that was begun.
func (e *Engine) Top() (*emit.Code, *emit.Op, bool) {
	if e.Ended() || len(e.actives) == 0 {
		return nil, nil, false
	}
	a := e.top()
	if a.code == nil {
		return nil, nil, false
	}
	return a.code, &a.ops[a.pc], true
}

// Value is what lies at a place of the code on top.
func (e *Engine) Value(place int) frames.Slot {
	a := e.top()
	return a.cells[a.code.Cell(place)]
}

// Sweep makes a collection.
func (e *Engine) Sweep(major bool) bool { return e.gear.Sweep(major) }

// GiveUp makes frames of the code on top; false, if there is none.
func (e *Engine) GiveUp() bool {
	if _, _, is := e.Top(); !is {
		return false
	}
	e.hooks.Down()
	e.moved = true
	a := e.top()
	if a.fresh {
		for i, x := range a.args {
			e.gear.Stack.SetLocal(i, x)
		}
		*a = active{}
		return true
	}
	p := a.code.At(a.ops[a.pc].Point)
	r := Record(p)
	if words := deopt.Words(e.gear.Heap, r); words > e.old() {
		if e.gear.Sweep(true); words > e.old() {
			e.outcome = interp.Ended(interp.Event{Kind: interp.Full}, p.Method, p.PC)
			return true
		}
	}
	values := make([]frames.Slot, len(p.Places))
	for k, place := range p.Places {
		values[k] = e.Value(place)
	}
	e.gear.Stack.Pop()
	e.actives = e.actives[:len(e.actives)-1]
	if deopt.RebuildAny(e.v, e.gear.Heap, e.gear.Stack, r, values) != nil {
		e.outcome = interp.Ended(interp.Event{Kind: interp.Flooded}, p.Method, p.PC)
		return true
	}
	e.actives = append(e.actives, make([]active, len(r.Frames))...)
	return true
}

// old is how many words the old half has left.
func (e *Engine) old() int {
	_, n := e.gear.Heap.Room()
	return n
}

// Record is what a point is given up to: its values are those at its Places.
func Record(p *emit.Point) deopt.Record {
	var r deopt.Record
	for _, s := range slices.Backward(p.Beneath) {
		r.Frames = append(r.Frames, frame(s))
	}
	r.Frames = append(r.Frames, frame(p.State))
	for _, x := range p.State.Virtuals {
		r.Virtuals = append(r.Virtuals, deopt.Virtual{Class: x.Class, Fields: slots(x.Fields)})
	}
	return r
}

func frame(s api.State) deopt.Frame {
	return deopt.Frame{Method: s.Method, PC: s.PC, Locals: slots(s.Locals), Stack: slots(s.Stack)}
}

func slots(l []int) []deopt.Slot {
	var out []deopt.Slot
	for _, slot := range l {
		switch {
		case slot >= 0:
			out = append(out, deopt.Slot{Kind: deopt.Value, N: slot})
		case slot == -1:
			out = append(out, deopt.Slot{})
		default:
			out = append(out, deopt.Slot{Kind: deopt.Object, N: -2 - slot})
		}
	}
	return out
}

// Back is the method on top and the target of the jump back that it has come to, if it is the first gear's and has come to one that is taken.
func (e *Engine) Back() (int, int, bool) {
	if e.Ended() || e.moved || e.top().code != nil {
		return 0, 0, false
	}
	op, is := e.gear.Ahead()
	if !is || op != api.Jump && op != api.Zero {
		return 0, 0, false
	}
	method, pc, _ := e.gear.Stack.Top()
	return method, e.gear.Program().Methods[method].Code[pc].A, true
}

// Replace takes the jump back that Back told, and enters a code there; false, if there is no fuel for it.
func (e *Engine) Replace(code *emit.Code) bool {
	if fuel, _ := e.gear.Left(); fuel == 0 {
		return false
	}
	e.hooks.Asked()
	e.gear.Step()
	_, pc, args, _, _ := e.gear.Stack.At(e.gear.Stack.Len() - 1)
	lives := live.Of(e.v, code.Method())
	for i := range args {
		if !args[i].Ref {
			continue
		}
		e.gear.Stack.SetLocal(i, frames.Slot{Ref: true})
		if !lives.Has(pc, i) {
			args[i].N = 0
		}
	}
	*e.top() = begin(code, args)
	e.moved = true
	return true
}
