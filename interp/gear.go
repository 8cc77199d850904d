package interp

import (
	"slices"

	"overdrive/api"
	"overdrive/frames"
	"overdrive/gc"
	"overdrive/heap"
	"overdrive/prog"
	"overdrive/verify"
	"overdrive/word"
)

// Gear is what both gears run on: the frames, the heap, the fuel, the inputs and the outputs. Its Step is the first gear.
type Gear struct {
	Stack *frames.Stack
	Heap  *heap.Heap

	// Who has roots beside the frames', or looks at each collection, lays these anew.
	Roots    func() []int
	SetRoots func(l []int)
	Collect  func(major bool, roots []int) ([]int, bool)

	program api.Program
	in      []int64
	fuel    int
	out     []int64
}

// What comes of a step, or of an op.
const (
	Went     = iota // it goes on
	Stopped         // a trap
	Starved         // no fuel
	Full            // no room for an object
	Flooded         // no room for a frame
	Called          // a method is called: Method, Args
	Returned        // the frame has answered: Value, if its method answers any
)

// Event is what came of a step.
type Event struct {
	Kind, Trap, Method int
	Args               []frames.Slot
	Value              frames.Slot
}

// NewGear is a gear without frames.
func NewGear(v *verify.Info, in []int64, fuel int, l Limits) (*Gear, error) {
	if fuel < 0 || fuel > api.MaxFuel {
		return nil, api.ErrLimit
	}
	p := v.Program()
	h, err := heap.New(p, l.Heap, l.Nursery)
	if err != nil {
		return nil, err
	}
	s, err := frames.New(v, l.Stack)
	if err != nil {
		return nil, err
	}
	g := &Gear{Stack: s, Heap: h, program: p, in: slices.Clone(in), fuel: fuel}
	g.Roots = s.Roots
	g.SetRoots = func(l []int) { s.SetRoots(l) }
	g.Collect = func(major bool, roots []int) ([]int, bool) {
		if major {
			return gc.Major(h, roots)
		}
		return gc.Minor(h, roots)
	}
	return g, nil
}

// Program is the program; it is only for looking.
func (g *Gear) Program() api.Program { return g.program }

// Outputs is what was put out.
func (g *Gear) Outputs() []int64 { return slices.Clone(g.out) }

// Left is the fuel, and the inputs, that are left.
func (g *Gear) Left() (int, int) { return g.fuel, len(g.in) }

// Pay takes a unit of fuel, if there is one.
func (g *Gear) Pay() bool {
	if g.fuel == 0 {
		return false
	}
	g.fuel--
	return true
}

// Sweep makes a collection with all roots: a small one, or, where that can't be or a great one is asked for, a great one.
func (g *Gear) Sweep(major bool) bool {
	roots := g.Roots()
	now, is := []int(nil), false
	if !major {
		now, is = g.Collect(false, roots)
	}
	if !is {
		now, is = g.Collect(true, roots)
	}
	if is {
		g.SetRoots(now)
	}
	return is
}

// instr is the instruction that the top frame comes to.
func (g *Gear) instr() (api.Method, int, api.Instr) {
	method, pc, _ := g.Stack.Top()
	m := g.program.Methods[method]
	return m, pc, m.Code[pc]
}

// Ahead is the op of the safepoint that the top frame comes to, if its next instruction is one: a jump back is one where it is taken.
func (g *Gear) Ahead() (int, bool) {
	m, pc, i := g.instr()
	if prog.Safe(i.Op) {
		return i.Op, true
	}
	return i.Op, prog.Back(m, pc) && g.jumps(i)
}

func (g *Gear) jumps(i api.Instr) bool {
	return i.Op == api.Jump || g.Stack.Peek(1)[0].N == 0
}

// Step does the instruction at the top frame's PC. Where it can't, the frame is as it was.
func (g *Gear) Step() Event {
	m, pc, i := g.instr()
	switch i.Op {
	case api.Jump, api.Zero:
		return g.jump(m, pc, i)
	case api.Call:
		return g.call(pc, i)
	case api.Ret:
		x := frames.Slot{}
		if m.Ret != "" {
			x, _ = g.Stack.Take()
		}
		return Event{Kind: Returned, Value: x}
	case api.Load, api.Store, api.Dup, api.Pop, api.Swap:
		g.shuffle(i)
		g.Stack.Jump(pc + 1)
		return Event{}
	}
	method, _, _ := g.Stack.Top()
	pop, push, _ := prog.Effect(g.program, method, i)
	x, e := g.Apply(i.Op, i.A, i.B, i.N, g.Stack.Peek(len(pop)))
	if e.Kind != Went {
		return e
	}
	for range pop {
		g.Stack.Take()
	}
	if push != "" {
		g.Stack.Lay(x)
	}
	g.Stack.Jump(pc + 1)
	return e
}

func (g *Gear) jump(m api.Method, pc int, i api.Instr) Event {
	goes := g.jumps(i)
	if goes && prog.Back(m, pc) && !g.Pay() {
		return Event{Kind: Starved}
	}
	if i.Op == api.Zero {
		g.Stack.Take()
	}
	if goes {
		g.Stack.Jump(i.A)
	} else {
		g.Stack.Jump(pc + 1)
	}
	return Event{}
}

func (g *Gear) call(pc int, i api.Instr) Event {
	if !g.Pay() {
		return Event{Kind: Starved}
	}
	if !g.Stack.Fits(i.A) {
		return Event{Kind: Flooded}
	}
	n := len(g.program.Methods[i.A].Params)
	e := Event{Kind: Called, Method: i.A, Args: g.Stack.Peek(n)}
	for range n {
		g.Stack.Take()
	}
	g.Stack.Jump(pc + 1)
	return e
}

// shuffle does the instructions that only move values.
func (g *Gear) shuffle(i api.Instr) {
	switch i.Op {
	case api.Load:
		x, _ := g.Stack.Local(i.A)
		g.Stack.Lay(x)
	case api.Store:
		x, _ := g.Stack.Take()
		g.Stack.SetLocal(i.A, x)
	case api.Dup:
		g.Stack.Lay(g.Stack.Peek(1)[0])
	case api.Pop:
		g.Stack.Take()
	case api.Swap:
		a, _ := g.Stack.Take()
		b, _ := g.Stack.Take()
		g.Stack.Lay(a)
		g.Stack.Lay(b)
	}
}

func integer(n int64) (frames.Slot, Event) { return frames.Slot{N: n}, Event{} }

func truth(is bool) (frames.Slot, Event) {
	if is {
		return integer(1)
	}
	return integer(0)
}

func trap(k int) (frames.Slot, Event) { return frames.Slot{}, Event{Kind: Stopped, Trap: k} }

// Apply does what an op does to its arguments, in either gear, and answers its value, if it has one.
func (g *Gear) Apply(op, a, b int, n int64, args []frames.Slot) (frames.Slot, Event) {
	switch op {
	case api.Const:
		return integer(n)
	case api.Null:
		return frames.Slot{Ref: true}, Event{}
	case api.Neg:
		x, _ := word.One(op, args[0].N)
		return integer(x)
	case api.Same:
		return truth(args[0].N == args[1].N)
	case api.New:
		return g.make(a, 0)
	case api.Is:
		class, _, is := g.Heap.Is(int(args[0].N))
		return truth(is && class == a)
	case api.Get, api.Put, api.Elem, api.Set, api.Len:
		return g.access(op, a, b, args)
	case api.Array:
		if args[0].N < 0 || args[0].N > api.MaxArray {
			return trap(api.TSize)
		}
		return g.make(-1-a, int(args[0].N))
	case api.In:
		if len(g.in) == 0 {
			return trap(api.TInput)
		}
		x := g.in[0]
		g.in = g.in[1:]
		return integer(x)
	case api.Out:
		g.out = append(g.out, args[0].N)
		return frames.Slot{}, Event{}
	}
	x, k := word.Two(op, args[0].N, args[1].N)
	if k != 0 {
		return trap(k)
	}
	return integer(x)
}

// make makes an object; the roots are asked for only where there is no room for it.
func (g *Gear) make(class, n int) (frames.Slot, Event) {
	r, is := gc.Try(g.Heap, class, n)
	if !is {
		var now []int
		r, now, is = gc.MakeBy(g.Heap, class, n, g.Roots(), g.Collect)
		g.SetRoots(now)
	}
	if !is {
		return frames.Slot{}, Event{Kind: Full}
	}
	return frames.Slot{Ref: true, N: int64(r)}, Event{}
}

// access is what looks into an object.
func (g *Gear) access(op, a, b int, args []frames.Slot) (frames.Slot, Event) {
	r := int(args[0].N)
	class, n, is := g.Heap.Is(r)
	if !is {
		return trap(api.TNull)
	}
	want, place, rest := a, b, args[1:]
	switch op {
	case api.Len:
		if class >= 0 {
			return trap(api.TClass)
		}
		return integer(int64(n))
	case api.Elem, api.Set:
		want, rest = -1-a, args[2:]
		if class == want && (args[1].N < 0 || args[1].N >= int64(n)) {
			return trap(api.TBounds)
		}
		place = int(args[1].N)
	}
	if class != want {
		return trap(api.TClass)
	}
	if len(rest) > 0 {
		g.Heap.Put(r, place, rest[0].N)
		return frames.Slot{}, Event{}
	}
	x, _ := g.Heap.Get(r, place)
	return frames.Slot{Ref: g.Heap.Ref(r, place), N: x}, Event{}
}
