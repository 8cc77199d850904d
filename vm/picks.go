package vm

import (
	"slices"
	"sync"

	"overdrive/api"
	"overdrive/deopt"
	"overdrive/emit"
	"overdrive/engine"
	"overdrive/live"
	"overdrive/script"
)

// task is what is to be compiled, and how.
type task struct{ method, entry, options int }

// unit is what a task was compiled to.
type unit struct {
	once sync.Once
	code *emit.Code
	err  error
}

// compile is the code of a task; the same task is done once.
func (m *VM) compile(method, entry, options int) (*emit.Code, error) {
	o := script.Unpack(options)
	t := task{method, entry, script.Pack(o)}
	u := m.made[t]
	if u == nil {
		u = &unit{}
		m.made[t] = u
	}
	u.once.Do(func() { u.code, u.err = emit.Compile(m.v, method, entry, o) })
	return u.code, u.err
}

// ahead is what is done ahead of a safepoint.
func (m *VM) ahead(point int) {
	m.counts.points.Add(1)
	if m.watch != nil {
		if code, op, is := m.engine.Top(); is {
			m.watch(m.snap(point, code.At(op.Point)))
		}
	}
	for _, k := range m.script.At(point) {
		if m.engine.Ended() {
			return
		}
		if !m.pick(k) {
			m.counts.ignored.Add(1)
		}
	}
}

// pick does a pick, and tells whether it did anything.
func (m *VM) pick(k api.Pick) bool {
	switch k.Act {
	case api.Minor, api.Major:
		return m.engine.Sweep(k.Act == api.Major)
	case api.Up:
		code, err := m.compile(k.A, 0, k.B)
		if err == nil {
			m.codes[k.A] = code
		}
		return err == nil
	case api.Down:
		return m.engine.GiveUp()
	}
	return m.replace(k)
}

func (m *VM) replace(k api.Pick) bool {
	method, target, is := m.engine.Back()
	if !is || !m.enterable(method, target) {
		return false
	}
	code, err := m.compile(method, target, k.B)
	if err != nil || !m.engine.Replace(code) {
		return false
	}
	m.counts.replaced.Add(1)
	return true
}

// enterable tells whether all that a method asks for at an instruction is locals that code takes there: at its beginning code takes the others for 0 and none.
func (m *VM) enterable(method, pc int) bool {
	if stack, is := m.v.Stack(method, pc); !is || stack != "" {
		return false
	}
	params := len(m.v.Program().Methods[method].Params)
	return pc > 0 || !slices.ContainsFunc(live.Of(m.v, method).Locals(0), func(i int) bool { return i >= params })
}

// snap tells of a safepoint of the code on top.
func (m *VM) snap(point int, p *emit.Point) Snap {
	s := Snap{Point: point, Op: p.Op, Compiled: true}
	for _, place := range p.Map {
		if r := m.engine.Value(place).N; r != 0 {
			s.Map = append(s.Map, int(r))
		}
	}
	slices.Sort(s.Map)
	s.Map = slices.Compact(s.Map)
	record := engine.Record(p)
	for _, f := range record.Frames {
		s.Frames = append(s.Frames, View{Method: f.Method, PC: f.PC, Locals: m.vals(p, f.Locals), Stack: m.vals(p, f.Stack)})
	}
	for _, x := range record.Virtuals {
		s.Virtuals = append(s.Virtuals, api.Object{Class: x.Class})
		s.Loose = append(s.Loose, m.vals(p, x.Fields))
	}
	return s
}

func (m *VM) vals(p *emit.Point, l []deopt.Slot) []Val {
	var out []Val
	for _, slot := range l {
		x := Val{}
		switch slot.Kind {
		case deopt.Value:
			v := m.engine.Value(p.Places[slot.N])
			x = Val{Ref: v.Ref, N: v.N}
		case deopt.Object:
			x = Val{Ref: true, Virtual: true, N: int64(slot.N)}
		}
		out = append(out, x)
	}
	return out
}
