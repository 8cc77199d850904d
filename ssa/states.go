package ssa

import (
	"slices"

	"overdrive/api"
	"overdrive/prog"
)

// state looks at the state of a node.
func (c *checker) state(n int) bool {
	s := c.f.Nodes[n].State
	if c.fit[s] == unasked {
		c.fit[s] = bad
		if c.chain(s) {
			c.fit[s] = good
		}
	}
	if c.fit[s] == bad || !c.instruction(n) {
		return false
	}
	for named := range Named(c.f, n) {
		if !c.order.Above(named, n) {
			return false
		}
	}
	return true
}

// instruction asks that the state stands at an instruction of which the node may be made.
func (c *checker) instruction(n int) bool {
	s := c.f.States[c.f.Nodes[n].State]
	m := c.p.Methods[s.Method]
	op := m.Code[s.PC].Op
	switch c.f.Nodes[n].Op {
	case api.Poll:
		return prog.Back(m, s.PC)
	case api.Enter:
		return op == api.Call
	case api.Guard:
		return op == api.Zero
	}
	return op == c.f.Nodes[n].Op
}

// frame is a state as it is asked for: what is on its stack, and which locals count.
type frame struct {
	state        api.State
	kinds, stack string
	counts       func(local int) bool
	virtuals     []api.Virtual // the topmost state's
	named        []int         // of these, those that were named
}

// chain looks at a state that a node has, and at those beneath it.
func (c *checker) chain(top int) bool {
	virtuals := c.f.States[top].Virtuals
	f := &frame{virtuals: virtuals}
	for s, above := top, -1; ; {
		if !c.shape(f, s, above) || !c.slots(f) {
			return false
		}
		up := f.state.Up
		if up == -1 {
			return f.state.Method == c.f.Method && c.virtuals(f)
		}
		if up < 0 || up >= s {
			return false
		}
		above, s = f.state.Method, up
	}
}

// shape finds out what a state has to be like; above is the method of the state that lies on it, or -1.
func (c *checker) shape(f *frame, s, above int) bool {
	f.state = c.f.States[s]
	pc := f.state.PC
	stack, is := c.v.Stack(f.state.Method, pc)
	if !is {
		return false
	}
	m := c.p.Methods[f.state.Method]
	lives := c.lives[f.state.Method]
	f.kinds, f.stack = prog.Kinds(m), stack
	f.counts = func(local int) bool { return lives.Has(pc, local) }
	if above >= 0 {
		if i := m.Code[pc]; i.Op != api.Call || i.A != above {
			return false
		}
		f.stack = stack[:len(stack)-len(c.p.Methods[above].Params)]
		behind := lives.Behind(pc)
		f.counts = func(local int) bool { return slices.Contains(behind, local) }
	}
	return len(f.state.Locals) == len(f.kinds) && len(f.state.Stack) == len(f.stack)
}

func (c *checker) slots(f *frame) bool {
	for i, slot := range f.state.Locals {
		if f.counts(i) != (slot != -1) || slot != -1 && !c.slot(f, slot, f.kinds[i]) {
			return false
		}
	}
	for i, slot := range f.state.Stack {
		if !c.slot(f, slot, f.stack[i]) {
			return false
		}
	}
	return true
}

// slot looks at one slot, and takes down the virtual object that it names.
func (c *checker) slot(f *frame, slot int, kind byte) bool {
	if slot >= 0 {
		return slot < len(c.f.Nodes) && c.f.Nodes[slot].Kind == string(kind)
	}
	v := -2 - slot
	if v < 0 || v >= len(f.virtuals) || kind != 'R' {
		return false
	}
	if !slices.Contains(f.named, v) {
		f.named = append(f.named, v)
	}
	return true
}

// virtuals looks at the virtual objects that were named, and asks that there are no others.
func (c *checker) virtuals(f *frame) bool {
	for k := 0; k < len(f.named); k++ {
		x := f.virtuals[f.named[k]]
		if x.Class < 0 || x.Class >= len(c.p.Classes) || len(x.Fields) != len(c.p.Classes[x.Class].Fields) {
			return false
		}
		for i, slot := range x.Fields {
			if !c.slot(f, slot, c.p.Classes[x.Class].Fields[i]) {
				return false
			}
		}
	}
	return len(f.named) == len(f.virtuals)
}
