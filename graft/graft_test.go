package graft

import (
	"slices"
	"testing"

	"overdrive/api"
	"overdrive/ssa"
)

func node(op int, kind string, args ...int) api.Node {
	return api.Node{Op: op, Kind: kind, State: -1, Args: args}
}

// diamond is two ways that meet in a phi.
func diamond() api.Function {
	return api.Function{
		Nodes: []api.Node{
			node(api.Const, "I"), node(api.Branch, "", 0), {Op: api.In, Kind: "I", State: 2}, node(api.Goto, ""), node(api.Goto, ""),
			node(api.Phi, "I", 2, 0), {Op: api.Out, State: -1, Args: []int{5}}, node(api.Return, "", 5),
		},
		Blocks: []api.Block{
			{Body: []int{0, 1}, Succ: []int{1, 2}}, {Body: []int{2, 3}, Succ: []int{3}, Preds: []int{0}}, {Body: []int{4}, Succ: []int{3}, Preds: []int{0}}, {Phis: []int{5}, Body: []int{6, 7}, Preds: []int{1, 2}},
		},
		States: []api.State{{Up: -1, Locals: []int{99}}, {Up: -1, Locals: []int{0}, Virtuals: []api.Virtual{{Fields: []int{77}}}}, {Up: 1, Stack: []int{0, -1}}},
	}
}

func TestBecome(t *testing.T) {
	f := diamond()
	g := New(f)
	n := g.Add(api.Node{Op: api.Const, Kind: "I", N: 4, State: -1})
	g.F.Blocks[0].Body = slices.Insert(g.F.Blocks[0].Body, 0, n)
	g.Become(0, n)
	g.Become(2, 0)
	if g.Is(2) != n || g.Is(0) != n || g.Is(7) != 7 || g.Is(-1) != -1 || !g.Phis() {
		t.Error("phis of one node")
	}
	h := g.Finish()
	if ssa.Size(h) != 6 || len(h.Nodes) != 6 || len(h.States) != 0 || slices.ContainsFunc(h.Nodes, func(x api.Node) bool { return x.Op == api.Phi }) {
		t.Error(ssa.Text(h))
	}
	if !ssa.Same(f, diamond()) {
		t.Error("what was handed in was changed")
	}
}

func TestPrune(t *testing.T) {
	g := New(diamond())
	g.F.Blocks[0].Succ = []int{2}
	g.Prune()
	if len(g.F.Blocks) != 3 || !slices.Equal(g.F.Blocks[2].Preds, []int{1}) || !slices.Equal(g.F.Nodes[5].Args, []int{0}) || !slices.Equal(g.F.Blocks[0].Succ, []int{1}) {
		t.Error(ssa.Text(g.F))
	}
}

// TestFinish lets go the states that are nobody's, and the Virtuals of those that are only beneath.
func TestFinish(t *testing.T) {
	h := New(diamond()).Finish()
	if len(h.States) != 2 || h.States[0].Virtuals != nil || h.States[1].Up != 0 || h.Nodes[2].State != 1 {
		t.Error(ssa.Text(h))
	}
}

func TestRepred(t *testing.T) {
	g := New(diamond())
	g.Repred(3, 1, 9)
	if !slices.Equal(g.F.Blocks[3].Preds, []int{2, 9}) || !slices.Equal(g.F.Nodes[5].Args, []int{0, 2}) {
		t.Error(ssa.Text(g.F))
	}
}
