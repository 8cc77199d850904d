// Package engine runs both gears on one heap: frames of the first gear and of register code within one another. What is done at a safepoint, and which methods have code, whoever runs it says.
package engine

import (
	"overdrive/api"
	"overdrive/emit"
	"overdrive/frames"
	"overdrive/interp"
	"overdrive/verify"
)

// Hooks is what whoever runs it has a say in, or counts.
type Hooks struct {
	Ahead func(point int)             // ahead of each safepoint
	Code  func(method int) *emit.Code // what a called method has, or nil
	Begun func()                      // a code is begun by a call
	Asked func()                      // an instruction is begun, or a node with a state is come to
	Down  func()                      // it is given up
}

// Engine is a run in both gears.
type Engine struct {
	v       *verify.Info
	gear    *interp.Gear
	hooks   Hooks
	actives []active // for each frame of the gear's stack; that of a code is empty, and stands for its words
	points  int
	moved   bool        // what is on top stands elsewhere than where it came to the safepoint
	outcome api.Outcome // of Kind 0 as long as it has not ended
}

// active is a frame of the first gear, or (with a code) a code that was begun.
type active struct {
	code  *emit.Code
	ops   []emit.Op
	cells []frames.Slot
	args  []frames.Slot // as long as they were not taken yet
	fresh bool          // no op was done yet
	waits bool          // for what it has called
	pc    int
}

// New is a run ahead of its first step.
func New(v *verify.Info, in []int64, fuel int, l interp.Limits, hooks Hooks) (*Engine, error) {
	g, err := interp.NewGear(v, in, fuel, l)
	if err != nil {
		return nil, err
	}
	e := &Engine{v: v, gear: g, hooks: hooks}
	g.Roots = e.roots
	g.SetRoots = e.setRoots
	if !g.Stack.Fits(0) {
		e.outcome = api.Outcome{Kind: api.Overflow}
		return e, nil
	}
	e.enter(0, nil)
	return e, nil
}

// Gear is what it runs on.
func (e *Engine) Gear() *interp.Gear { return e.gear }

// Points is how many safepoints were come to.
func (e *Engine) Points() int { return e.points }

// Ended tells whether it has ended.
func (e *Engine) Ended() bool { return e.outcome.Kind != 0 }

// Run does all that is left.
func (e *Engine) Run() api.Outcome {
	for !e.Ended() {
		if a := e.top(); a.code != nil {
			e.op(a)
		} else {
			e.instr()
		}
	}
	o := e.outcome
	o.Out = e.gear.Outputs()
	return o
}

func (e *Engine) top() *active { return &e.actives[len(e.actives)-1] }

// enter begins a method for which there is room.
func (e *Engine) enter(method int, args []frames.Slot) {
	code := e.hooks.Code(method)
	if code == nil {
		e.gear.Stack.Push(method, args)
		e.actives = append(e.actives, active{})
		return
	}
	blank := make([]frames.Slot, len(args))
	for i, x := range args {
		blank[i].Ref = x.Ref
	}
	e.gear.Stack.Push(method, blank)
	e.actives = append(e.actives, begin(code, args))
	e.hooks.Begun()
}

func begin(code *emit.Code, args []frames.Slot) active {
	return active{code: code, ops: code.Ops(), cells: make([]frames.Slot, code.Cells()), args: args, fresh: true}
}

// answer ends what is on top; what it answers goes to what lies beneath.
func (e *Engine) answer(method int, x frames.Slot) {
	e.gear.Stack.Pop()
	e.actives = e.actives[:len(e.actives)-1]
	if len(e.actives) == 0 {
		e.outcome = api.Outcome{Kind: api.Done, Value: x.N}
		return
	}
	a := e.top()
	switch {
	case a.code != nil:
		a.waits = false
		a.lay(x)
	case e.gear.Program().Methods[method].Ret != "":
		e.gear.Stack.Lay(x)
	}
}

// lay lays what an op makes, and goes on behind it.
func (a *active) lay(x frames.Slot) {
	if to := a.ops[a.pc].To; to >= 0 {
		a.cells[to] = x
	}
	a.pc++
}

// safepoint lets be done what is to be done ahead of a safepoint, and tells whether it is left by that.
func (e *Engine) safepoint() bool {
	e.points++
	e.moved = false
	e.hooks.Ahead(e.points - 1)
	return e.moved || e.Ended()
}

// instr does an instruction of the first gear.
func (e *Engine) instr() {
	if _, is := e.gear.Ahead(); is && e.safepoint() {
		return
	}
	e.hooks.Asked()
	method, pc, _ := e.gear.Stack.Top()
	switch x := e.gear.Step(); x.Kind {
	case interp.Called:
		e.enter(x.Method, x.Args)
	case interp.Returned:
		e.answer(method, x.Value)
	default:
		e.outcome = interp.Ended(x, method, pc)
	}
}

// refs goes through the references of all codes, the first one first.
func (e *Engine) refs(yield func(x *frames.Slot) bool) {
	for i := range e.actives {
		a := &e.actives[i]
		if a.code == nil {
			continue
		}
		if a.fresh {
			for k := range a.args {
				if a.args[k].Ref && !yield(&a.args[k]) {
					return
				}
			}
			continue
		}
		cells := a.ops[a.pc].Ahead
		if a.waits {
			cells = a.ops[a.pc].Behind
		}
		for _, k := range cells {
			if !yield(&a.cells[k]) {
				return
			}
		}
	}
}

// roots is the references of the frames, then those of the codes.
func (e *Engine) roots() []int {
	out := e.gear.Stack.Roots()
	for x := range e.refs {
		out = append(out, int(x.N))
	}
	return out
}

func (e *Engine) setRoots(l []int) {
	n := len(l)
	for range e.refs {
		n--
	}
	e.gear.Stack.SetRoots(l[:n])
	for x := range e.refs {
		x.N = int64(l[n])
		n++
	}
}
