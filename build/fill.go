package build

import (
	"overdrive/api"
	"overdrive/prog"
)

// enter lays what there is at the entry: parameters, and 0 and none for locals that are asked for ahead of any Store.
func (b *builder) enter() {
	kinds := prog.Kinds(b.m)
	b.now = values{locals: make([]int, len(kinds))}
	for i := range kinds {
		kind := kinds[i : i+1]
		b.now.locals[i] = -1
		switch {
		case !b.lives.Has(b.entry, i):
		case b.entry > 0 || i < len(b.m.Params):
			x := node(api.Param, kind)
			x.A = i
			b.now.locals[i] = b.put(x)
		case kind == "I":
			b.now.locals[i] = b.put(node(api.Const, kind))
		default:
			b.now.locals[i] = b.put(node(api.Null, kind))
		}
	}
}

// fill fills the blocks. What stands at the beginning of a block with one way to it is what stood at the end of that way; else it is phis, whose arguments are joined at last. As the edges are not known ahead, every block but the first begins with phis.
func (b *builder) fill() {
	b.enter()
	if b.begins[0] < 0 {
		b.goTo(b.entry)
		b.ends[0] = b.now
	} else {
		b.run(b.entry)
	}
	for block := 1; block < len(b.begins); block++ {
		if pc := b.begins[block]; pc >= 0 {
			b.block = block
			b.phis(pc)
			b.run(pc)
		}
	}
}

// phis begins a block.
func (b *builder) phis(pc int) {
	kinds := prog.Kinds(b.m)
	stack, _ := b.v.Stack(b.method, pc)
	b.now = values{}
	phi := func(kind string) int {
		n := b.graft.Add(node(api.Phi, kind))
		x := &b.graft.F.Blocks[b.block]
		x.Phis = append(x.Phis, n)
		return n
	}
	for i := range kinds {
		n := -1
		if b.lives.Has(pc, i) {
			n = phi(kinds[i : i+1])
		}
		b.now.locals = append(b.now.locals, n)
	}
	for i := range stack {
		b.now.stack = append(b.now.stack, phi(stack[i:i+1]))
	}
}

// join gives each phi its arguments: what stands at the ends of its block's Preds.
func (b *builder) join() {
	f := &b.graft.F
	for block, x := range f.Blocks {
		if len(x.Phis) == 0 {
			continue
		}
		at := 0
		pc := b.begins[block]
		give := func(of func(end values) int) {
			for _, p := range x.Preds {
				f.Nodes[x.Phis[at]].Args = append(f.Nodes[x.Phis[at]].Args, of(b.ends[p]))
			}
			at++
		}
		for i := range prog.Kinds(b.m) {
			if b.lives.Has(pc, i) {
				give(func(end values) int { return end.locals[i] })
			}
		}
		for i := 0; at < len(x.Phis); i++ {
			give(func(end values) int { return end.stack[i] })
		}
	}
}

// run fills a block with the instructions from pc on.
func (b *builder) run(pc int) {
	for first := true; ; first = false {
		if !first && b.heads.Has(pc) {
			b.goTo(pc)
			break
		}
		i := b.m.Code[pc]
		if i.Op == api.Zero && b.guesses[pc] == other && i.A != pc+1 {
			b.guard(pc)
			pc++
			continue
		}
		if i.Op == api.Jump || i.Op == api.Zero || i.Op == api.Ret {
			b.end(pc, i)
			break
		}
		b.instr(pc, i)
		pc++
	}
	b.ends[b.block] = b.now
}

func (b *builder) pop(n int) []int {
	from := len(b.now.stack) - n
	out := b.now.stack[from:]
	b.now.stack = b.now.stack[:from:from]
	return out
}

func (b *builder) push(n ...int) { b.now.stack = append(b.now.stack, n...) }

// instr does an instruction that ends no block.
func (b *builder) instr(pc int, i api.Instr) {
	switch i.Op {
	case api.Load:
		b.push(b.now.locals[i.A])
	case api.Store:
		b.now.locals[i.A] = b.pop(1)[0]
	case api.Dup:
		x := b.pop(1)
		b.push(x[0], x[0])
	case api.Pop:
		b.pop(1)
	case api.Swap:
		x := b.pop(2)
		b.push(x[1], x[0])
	default:
		pop, push, _ := prog.Effect(b.p, b.method, i)
		x := api.Node{Op: i.Op, A: i.A, B: i.B, N: i.N, Kind: push, State: -1}
		if prog.Traps(i.Op) || prog.Safe(i.Op) {
			x.State = b.state(pc)
		}
		x.Args = b.pop(len(pop))
		if n := b.put(x); push != "" {
			b.push(n)
		}
	}
}

// state is what the interpreter's frame would be ahead of an instruction.
func (b *builder) state(pc int) int {
	s := api.State{Method: b.method, PC: pc, Up: -1, Stack: b.now.stack}
	for i, n := range b.now.locals {
		if !b.lives.Has(pc, i) {
			n = -1
		}
		s.Locals = append(s.Locals, n)
	}
	return b.graft.AddState(s)
}

// guard lets it go on as it was guessed, and answers the state.
func (b *builder) guard(pc int) int {
	s := b.state(pc)
	x := node(api.Guard, "", b.pop(1)...)
	x.State = s
	if b.guesses[pc] == other {
		x.N = 1
	}
	b.put(x)
	return s
}

// end does an instruction that ends a block.
func (b *builder) end(pc int, i api.Instr) {
	switch {
	case i.Op == api.Ret:
		b.put(node(api.Return, "", b.pop(len(b.m.Ret))...))
	case i.Op == api.Zero && b.guesses[pc] == nothing && i.A != pc+1:
		b.branch(pc, i)
	case i.Op == api.Zero && b.guesses[pc] == nothing:
		b.pop(1)
		b.goTo(i.A)
	default:
		state := -1
		if i.Op == api.Zero {
			state = b.guard(pc)
		}
		if prog.Back(b.m, pc) {
			b.poll(pc, state)
		}
		b.goTo(i.A)
	}
}

func (b *builder) poll(pc, state int) {
	if state < 0 {
		state = b.state(pc)
	}
	x := node(api.Poll, "")
	x.State = state
	b.put(x)
}

// branch ends a block in two ways; where that to A leads back it has a block of its own, for the Poll.
func (b *builder) branch(pc int, i api.Instr) {
	state := -1
	if prog.Back(b.m, pc) {
		state = b.state(pc)
	}
	block := b.block
	b.put(node(api.Branch, "", b.pop(1)...))
	b.edge(block, b.at[pc+1])
	if state < 0 {
		b.edge(block, b.at[i.A])
		return
	}
	b.block = b.add(-1)
	b.edge(block, b.block)
	b.poll(pc, state)
	b.goTo(i.A)
	b.ends[b.block] = b.now
	b.block = block
}
