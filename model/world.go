package model

import (
	"slices"

	"overdrive/api"
	"overdrive/prog"
	"overdrive/verify"
	"overdrive/word"
)

// World is what is not on any frame: the objects, the fuel, the inputs and the outputs. Whoever runs instructions or nodes by their meaning does it in one.
type World struct {
	program api.Program
	objects []object
	in      []int64
	fuel    int
	out     []int64
}

type object struct {
	class int
	vals  []int64
}

// What comes of a step of one frame.
const (
	Went     = iota // it goes on
	Stopped         // a trap
	Starved         // no fuel
	Called          // a method is called: Method, Args
	Returned        // the frame has answered: Value, if its method answers any
)

// Event is what came of a step.
type Event struct {
	Kind, Trap, Method int
	Args               []Value
	Value              Value
}

// NewWorld is a world in which nothing was done yet.
func NewWorld(v *verify.Info, in []int64, fuel int) (*World, error) {
	if fuel < 0 || fuel > api.MaxFuel {
		return nil, api.ErrLimit
	}
	return &World{program: v.Program(), in: slices.Clone(in), fuel: fuel}, nil
}

// Blank is 0, or none.
func Blank(ref bool) Value {
	if ref {
		return Value{Ref: true, N: -1}
	}
	return Value{}
}

func integer(n int64) Value { return Value{N: n} }

func truth(is bool) Value {
	if is {
		return integer(1)
	}
	return integer(0)
}

// Frame is a new frame of a method with these arguments.
func (w *World) Frame(method int, args []Value) Frame {
	m := w.program.Methods[method]
	f := Frame{Method: method, Locals: slices.Clone(args)}
	for _, kind := range m.Locals {
		f.Locals = append(f.Locals, Blank(kind == 'R'))
	}
	return f
}

// Pay takes a unit of fuel, if there is one.
func (w *World) Pay() bool {
	if w.fuel == 0 {
		return false
	}
	w.fuel--
	return true
}

// Outputs is what was put out.
func (w *World) Outputs() []int64 { return slices.Clone(w.out) }

// Step does the instruction at a frame's PC. Behind a trap, or without fuel, the frame is as it was.
func (w *World) Step(f *Frame) Event {
	m := w.program.Methods[f.Method]
	i := m.Code[f.PC]
	top := len(f.Stack) - 1
	switch i.Op {
	case api.Jump, api.Zero:
		return w.jump(m, f, i)
	case api.Call:
		if !w.Pay() {
			return Event{Kind: Starved}
		}
		from := len(f.Stack) - len(w.program.Methods[i.A].Params)
		e := Event{Kind: Called, Method: i.A, Args: slices.Clone(f.Stack[from:])}
		f.Stack = f.Stack[:from]
		f.PC++
		return e
	case api.Ret:
		e := Event{Kind: Returned}
		if m.Ret != "" {
			e.Value = f.Stack[top]
		}
		return e
	case api.Load:
		f.Stack = append(f.Stack, f.Locals[i.A])
	case api.Store:
		f.Locals[i.A] = f.Stack[top]
		f.Stack = f.Stack[:top]
	case api.Dup:
		f.Stack = append(f.Stack, f.Stack[top])
	case api.Pop:
		f.Stack = f.Stack[:top]
	case api.Swap:
		f.Stack[top], f.Stack[top-1] = f.Stack[top-1], f.Stack[top]
	default:
		return w.apply(f, i)
	}
	f.PC++
	return Event{}
}

func (w *World) jump(m api.Method, f *Frame, i api.Instr) Event {
	top := len(f.Stack) - 1
	goes := i.Op == api.Jump || f.Stack[top].N == 0
	if goes && prog.Back(m, f.PC) && !w.Pay() {
		return Event{Kind: Starved}
	}
	if i.Op == api.Zero {
		f.Stack = f.Stack[:top]
	}
	if goes {
		f.PC = i.A
	} else {
		f.PC++
	}
	return Event{}
}

func (w *World) apply(f *Frame, i api.Instr) Event {
	pop, push, _ := prog.Effect(w.program, f.Method, i)
	from := len(f.Stack) - len(pop)
	x, trap := w.Apply(i.Op, i.A, i.B, i.N, f.Stack[from:])
	if trap != 0 {
		return Event{Kind: Stopped, Trap: trap}
	}
	f.Stack = f.Stack[:from]
	if push != "" {
		f.Stack = append(f.Stack, x)
	}
	f.PC++
	return Event{}
}

// Apply does what an op does to its arguments, for instructions and nodes alike, and answers its value (if it has one), or its trap.
func (w *World) Apply(op, a, b int, n int64, args []Value) (Value, int) {
	switch op {
	case api.Const:
		return integer(n), 0
	case api.Null:
		return Blank(true), 0
	case api.Neg:
		x, _ := word.One(op, args[0].N)
		return integer(x), 0
	case api.Same:
		return truth(args[0].N == args[1].N), 0
	case api.New:
		return w.New(a), 0
	case api.Is:
		return truth(args[0].N >= 0 && w.objects[args[0].N].class == a), 0
	case api.Get, api.Put:
		return w.field(a, b, args)
	case api.Array:
		return w.array(a, args[0].N)
	case api.Elem, api.Set:
		return w.element(a, args)
	case api.Len:
		return w.length(args[0])
	case api.In:
		if len(w.in) == 0 {
			return Value{}, api.TInput
		}
		x := w.in[0]
		w.in = w.in[1:]
		return integer(x), 0
	case api.Out:
		w.out = append(w.out, args[0].N)
		return Value{}, 0
	}
	x, trap := word.Two(op, args[0].N, args[1].N)
	return integer(x), trap
}

// New makes an object.
func (w *World) New(class int) Value {
	return w.lay(class, len(w.program.Classes[class].Fields))
}

// Field lays a value into a field of an object that is known to have it.
func (w *World) Field(o Value, field int, x Value) { w.objects[o.N].vals[field] = x.N }

// holds tells whether the i-th value of an object of a class is a reference.
func (w *World) holds(class, i int) bool {
	if class < 0 {
		return class == -2
	}
	return w.program.Classes[class].Fields[i] == 'R'
}

func (w *World) lay(class, n int) Value {
	o := object{class: class, vals: make([]int64, n)}
	for i := range o.vals {
		o.vals[i] = Blank(w.holds(class, i)).N
	}
	w.objects = append(w.objects, o)
	return Value{Ref: true, N: int64(len(w.objects) - 1)}
}

func (w *World) array(a int, n int64) (Value, int) {
	if n < 0 || n > api.MaxArray {
		return Value{}, api.TSize
	}
	return w.lay(-1-a, int(n)), 0
}

// object is the object of a class that a value names, or the trap that lies in it.
func (w *World) object(r Value, class int) (*object, int) {
	if r.N < 0 {
		return nil, api.TNull
	}
	o := &w.objects[r.N]
	if o.class != class {
		return nil, api.TClass
	}
	return o, 0
}

// field is Get, or, with two arguments, Put.
func (w *World) field(a, b int, args []Value) (Value, int) {
	o, trap := w.object(args[0], a)
	if trap != 0 {
		return Value{}, trap
	}
	return w.move(o, b, args[1:]), 0
}

// element is Elem, or, with three arguments, Set.
func (w *World) element(a int, args []Value) (Value, int) {
	o, trap := w.object(args[0], -1-a)
	if trap != 0 {
		return Value{}, trap
	}
	if i := args[1].N; i < 0 || i >= int64(len(o.vals)) {
		return Value{}, api.TBounds
	}
	return w.move(o, int(args[1].N), args[2:]), 0
}

// move lays a value into a place, if one is handed in, else it answers what lies there.
func (w *World) move(o *object, i int, x []Value) Value {
	if len(x) > 0 {
		o.vals[i] = x[0].N
		return Value{}
	}
	return Value{Ref: w.holds(o.class, i), N: o.vals[i]}
}

func (w *World) length(r Value) (Value, int) {
	if r.N < 0 {
		return Value{}, api.TNull
	}
	o := &w.objects[r.N]
	if o.class >= 0 {
		return Value{}, api.TClass
	}
	return integer(int64(len(o.vals))), 0
}
