package engine

import (
	"overdrive/api"
	"overdrive/emit"
	"overdrive/frames"
	"overdrive/interp"
)

func isSafepoint(op int) bool {
	return op == api.Poll || op == api.Enter || op == api.New || op == api.Array || op == api.Call
}

// op does an op of the code on top.
func (e *Engine) op(a *active) {
	o := &a.ops[a.pc]
	if o.Op == api.Param {
		a.lay(a.args[o.A])
		return
	}
	a.fresh, a.args = false, nil
	if o.Point >= 0 {
		e.hooks.Asked()
	}
	if isSafepoint(o.Op) && e.safepoint() {
		return
	}
	args := make([]frames.Slot, len(o.From))
	for k, from := range o.From {
		args[k] = a.cells[from]
	}
	switch o.Op {
	case emit.Move:
		a.lay(args[0])
	case api.Goto:
		a.pc = o.Jump[0]
	case api.Branch:
		way := 0
		if args[0].N == 0 {
			way = 1
		}
		a.pc = o.Jump[way]
	case api.Return:
		e.answer(a.code.Method(), append(args, frames.Slot{})[0])
	case api.Guard:
		if (args[0].N != 0) == (o.N == 1) {
			a.pc++
			return
		}
		e.GiveUp()
	case api.Poll, api.Enter, api.Call:
		e.pay(a, o, args)
	default:
		x, event := e.gear.Apply(o.Op, o.A, o.B, o.N, args)
		if event.Kind != interp.Went {
			e.end(a, o, event)
			return
		}
		a.lay(x)
	}
}

// end ends it at the innermost place of an op's state.
func (e *Engine) end(a *active, o *emit.Op, event interp.Event) {
	p := a.code.At(o.Point)
	e.outcome = interp.Ended(event, p.Method, p.PC)
}

// pay does the ops that take fuel.
func (e *Engine) pay(a *active, o *emit.Op, args []frames.Slot) {
	switch {
	case !e.gear.Pay():
		e.end(a, o, interp.Event{Kind: interp.Starved})
	case o.Op != api.Call:
		a.pc++
	case !e.gear.Stack.Fits(o.A):
		e.end(a, o, interp.Event{Kind: interp.Flooded})
	default:
		a.waits = true
		e.enter(o.A, args)
	}
}
