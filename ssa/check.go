package ssa

import (
	"slices"

	"overdrive/api"
	"overdrive/dom"
	"overdrive/flow"
	"overdrive/live"
	"overdrive/prog"
	"overdrive/verify"
)

const maxBlocks = 500

// checker looks at a function.
type checker struct {
	v     *verify.Info
	p     api.Program
	f     api.Function
	order *Order
	lives []*live.Map // of each method
	fit   []int       // of each state: unasked, good, bad
}

const (
	unasked = iota
	good
	bad
)

// Check tells the first thing that keeps a function from being one.
func Check(v *verify.Info, f api.Function) error {
	if len(f.Blocks) < 1 || len(f.Blocks) > maxBlocks || len(f.Nodes) > api.MaxNodes || len(f.States) > api.MaxNodes {
		return api.ErrMany
	}
	c := &checker{v: v, p: v.Program(), f: f, fit: make([]int, len(f.States))}
	if !c.entry() || !c.blocks() || !c.placed() {
		return api.ErrNode
	}
	c.order = Placing(f)
	for n := range f.Nodes {
		if !c.node(n) || !c.ordered(n) {
			return api.ErrNode
		}
	}
	for m := range c.p.Methods {
		c.lives = append(c.lives, live.Of(v, m))
	}
	for n := range f.Nodes {
		if f.Nodes[n].State >= 0 && !c.state(n) {
			return api.ErrState
		}
	}
	return nil
}

func (c *checker) entry() bool {
	stack, is := c.v.Stack(c.f.Method, c.f.Entry)
	return is && (c.f.Entry == 0 || stack == "")
}

func isEnd(op int) bool { return op == api.Goto || op == api.Branch || op == api.Return }

// blocks looks at the edges.
func (c *checker) blocks() bool {
	g := Graph(c.f)
	for _, b := range c.f.Blocks {
		if len(b.Body) == 0 {
			return false
		}
		for _, s := range b.Succ {
			if s < 0 || s >= len(g) {
				return false
			}
		}
	}
	preds := flow.Preds(g)
	for b, x := range c.f.Blocks {
		if !slices.Equal(preds[b], x.Preds) {
			return false
		}
	}
	first := c.f.Blocks[0]
	return len(first.Preds) == 0 && len(first.Phis) == 0 && !slices.Contains(flow.Reach(g), false)
}

// placed asks that each node stands in one place, and of a kind that may stand there.
func (c *checker) placed() bool {
	seen := make([]bool, len(c.f.Nodes))
	count := 0
	meet := func(n int) bool {
		if n < 0 || n >= len(seen) || seen[n] {
			return false
		}
		seen[n] = true
		count++
		return true
	}
	for _, b := range c.f.Blocks {
		for _, n := range b.Phis {
			if !meet(n) || c.f.Nodes[n].Op != api.Phi {
				return false
			}
		}
		for k, n := range b.Body {
			if !meet(n) || c.f.Nodes[n].Op == api.Phi || isEnd(c.f.Nodes[n].Op) != (k == len(b.Body)-1) {
				return false
			}
		}
		if !ends(c.f.Nodes[b.Body[len(b.Body)-1]].Op, b.Succ) {
			return false
		}
	}
	return count == len(seen)
}

func ends(op int, succ []int) bool {
	switch op {
	case api.Goto:
		return len(succ) == 1
	case api.Branch:
		return len(succ) == 2 && succ[0] != succ[1]
	}
	return len(succ) == 0
}

// node looks at a node by itself: its kind, its arguments' kinds, its numbers, and whether it has a state.
func (c *checker) node(n int) bool {
	x := c.f.Nodes[n]
	kind, args, is := c.sign(n)
	if !is || x.Kind != kind || len(x.Args) != len(args) {
		return false
	}
	for k, a := range x.Args {
		if a < 0 || a >= len(c.f.Nodes) || c.f.Nodes[a].Kind != args[k:k+1] {
			return false
		}
	}
	if hasState(x.Op) {
		return x.State >= 0 && x.State < len(c.f.States)
	}
	return x.State == -1
}

func hasState(op int) bool {
	return prog.Traps(op) || prog.Safe(op) || op == api.Poll || op == api.Enter || op == api.Guard
}

// sign is the kind that a node has to have, and those of its arguments.
func (c *checker) sign(n int) (string, string, bool) {
	x := c.f.Nodes[n]
	switch {
	case x.Op == api.Param:
		return c.param(n)
	case x.Op == api.Phi:
		args := ""
		for range c.f.Blocks[c.order.Block[n]].Preds {
			args += x.Kind
		}
		return x.Kind, args, bare(x) && (x.Kind == "I" || x.Kind == "R")
	case x.Op == api.Guard:
		guard := x
		guard.N = 0
		return "", "I", bare(guard) && (x.N == 0 || x.N == 1)
	case x.Op == api.Branch:
		return "", "I", bare(x)
	case x.Op == api.Return:
		return "", c.p.Methods[c.f.Method].Ret, bare(x)
	case x.Op == api.Poll || x.Op == api.Enter || x.Op == api.Goto:
		return "", "", bare(x)
	case x.Op < api.Const || x.Op > api.Out || slices.Contains([]int{api.Load, api.Store, api.Dup, api.Pop, api.Swap, api.Jump, api.Zero, api.Ret}, x.Op):
		return "", "", false
	}
	a, b, wide := prog.UsesFields(x.Op)
	args, kind, is := prog.Effect(c.p, c.f.Method, api.Instr{Op: x.Op, A: x.A, B: x.B})
	return kind, args, is && (a || x.A == 0) && (b || x.B == 0) && (wide || x.N == 0)
}

// bare tells whether a node has no number.
func bare(x api.Node) bool { return x.A == 0 && x.B == 0 && x.N == 0 }

func (c *checker) param(n int) (string, string, bool) {
	x := c.f.Nodes[n]
	m := c.p.Methods[c.f.Method]
	may := prog.Kinds(m)
	if c.f.Entry == 0 {
		may = m.Params
	}
	if c.order.Block[n] != 0 || x.A < 0 || x.A >= len(may) || x.B != 0 || x.N != 0 {
		return "", "", false
	}
	for k, y := range c.f.Nodes {
		if k != n && y.Op == api.Param && y.A == x.A {
			return "", "", false
		}
	}
	return may[x.A : x.A+1], "", true
}

// ordered asks that the arguments of a node stand above it.
func (c *checker) ordered(n int) bool {
	for k, a := range c.f.Nodes[n].Args {
		if c.f.Nodes[n].Op == api.Phi {
			if !c.order.Tree.Above(c.order.Block[a], c.f.Blocks[c.order.Block[n]].Preds[k]) {
				return false
			}
		} else if !c.order.Above(a, n) {
			return false
		}
	}
	return true
}

// Order is where the nodes of a function stand, and what stands above what.
type Order struct {
	Block []int // of each node; -1: in none
	Place []int // of each node in its block; phis stand at 0 together
	Tree  *dom.Tree
}

// Placing is the order of a function whose nodes stand in one place at most.
func Placing(f api.Function) *Order {
	o := &Order{Block: make([]int, len(f.Nodes)), Place: make([]int, len(f.Nodes)), Tree: dom.Of(Graph(f))}
	for n := range o.Block {
		o.Block[n] = -1
	}
	for b, x := range f.Blocks {
		for _, n := range x.Phis {
			o.Block[n] = b
		}
		for k, n := range x.Body {
			o.Block[n], o.Place[n] = b, k+1
		}
	}
	return o
}

// Above tells whether a node stands above another one.
func (o *Order) Above(a, b int) bool {
	if o.Block[a] == o.Block[b] {
		return o.Place[a] < o.Place[b]
	}
	return o.Tree.Above(o.Block[a], o.Block[b])
}
