// Package graft changes functions: nodes become other nodes, or are gone; edges are gone, and blocks that can't be reached then.
package graft

import (
	"slices"

	"overdrive/api"
	"overdrive/flow"
	"overdrive/ssa"
)

// Graft is a function that is being changed. What changes it may lay its nodes, states and blocks anew as it likes, as long as it ends with Finish.
type Graft struct {
	F  api.Function
	is []int // of each node, the one that it has become
}

// New begins with a copy of a function.
func New(f api.Function) *Graft { return &Graft{F: ssa.Copy(f)} }

// Add lays a node behind all others, in no block yet.
func (g *Graft) Add(x api.Node) int {
	x.Args = slices.Clone(x.Args)
	g.F.Nodes = append(g.F.Nodes, x)
	return len(g.F.Nodes) - 1
}

// AddState lays a state behind all others.
func (g *Graft) AddState(s api.State) int {
	g.F.States = append(g.F.States, ssa.CopyState(s))
	return len(g.F.States) - 1
}

// Is is what a node has become.
func (g *Graft) Is(n int) int {
	for n >= 0 && n < len(g.is) && g.is[n] != n {
		n = g.is[n]
	}
	return n
}

// Become lets a node be another one wherever it is named. It is gone from its block.
func (g *Graft) Become(n, other int) {
	for len(g.is) < len(g.F.Nodes) {
		g.is = append(g.is, len(g.is))
	}
	g.Drop(n)
	g.is[n] = g.Is(other)
}

// Drop takes a node out of its block.
func (g *Graft) Drop(n int) {
	for b := range g.F.Blocks {
		x := &g.F.Blocks[b]
		if g.F.Nodes[n].Op == api.Phi {
			x.Phis = slices.DeleteFunc(x.Phis, func(k int) bool { return k == n })
		} else {
			x.Body = slices.DeleteFunc(x.Body, func(k int) bool { return k == n })
		}
	}
}

// Rename lays what nodes have become wherever they are named.
func (g *Graft) Rename() {
	g.each(g.Is)
}

// each lays anew all places that name nodes.
func (g *Graft) each(now func(n int) int) {
	lay := func(l []int) {
		for i, n := range l {
			if n >= 0 {
				l[i] = now(n)
			}
		}
	}
	for n := range g.F.Nodes {
		lay(g.F.Nodes[n].Args)
	}
	for s := range g.F.States {
		lay(g.F.States[s].Locals)
		lay(g.F.States[s].Stack)
		for _, v := range g.F.States[s].Virtuals {
			lay(v.Fields)
		}
	}
}

// Prune lets go what can't be reached from block 0 by the Succ as they are: blocks, and the phis' arguments of edges that are no more.
func (g *Graft) Prune() {
	reach := flow.Reach(ssa.Graph(g.F))
	now := make([]int, len(reach))
	n := 0
	for b, is := range reach {
		now[b] = n
		if is {
			n++
		}
	}
	for b := range g.F.Blocks {
		if reach[b] {
			g.cut(b, reach)
		}
	}
	var left []api.Block
	for b, x := range g.F.Blocks {
		if !reach[b] {
			continue
		}
		for _, l := range [][]int{x.Succ, x.Preds} {
			for i := range l {
				l[i] = now[l[i]]
			}
		}
		left = append(left, x)
	}
	g.F.Blocks = left
}

// cut takes the edges that are no more out of a block's Preds and of its phis.
func (g *Graft) cut(b int, reach []bool) {
	x := &g.F.Blocks[b]
	var preds, places []int
	for k, p := range x.Preds {
		if reach[p] && slices.Contains(g.F.Blocks[p].Succ, b) {
			preds = append(preds, p)
			places = append(places, k)
		}
	}
	if len(preds) == len(x.Preds) {
		return
	}
	x.Preds = preds
	for _, n := range x.Phis {
		var args []int
		for _, k := range places {
			args = append(args, g.F.Nodes[n].Args[k])
		}
		g.F.Nodes[n].Args = args
	}
}

// Phis lets each phi that can only be one other node be that, and tells whether there was any.
func (g *Graft) Phis() bool {
	any := false
	for again := true; again; {
		again = false
		for _, b := range g.F.Blocks {
			for _, n := range slices.Clone(b.Phis) {
				if x, is := g.only(n); is {
					g.Become(n, x)
					any, again = true, true
				}
			}
		}
	}
	if any {
		g.Rename()
	}
	return any
}

// only is the one node beside itself that a phi names.
func (g *Graft) only(n int) (int, bool) {
	x := -1
	for _, a := range g.F.Nodes[n].Args {
		switch a = g.Is(a); {
		case a == n || a == x:
		case x >= 0:
			return 0, false
		default:
			x = a
		}
	}
	return x, x >= 0
}

// Finish is the function, with just the nodes that stand in blocks, and the states that these have.
func (g *Graft) Finish() api.Function {
	g.Rename()
	nodes := make([]int, len(g.F.Nodes))
	for n := range nodes {
		nodes[n] = -1
	}
	for _, b := range g.F.Blocks {
		for _, l := range [][]int{b.Phis, b.Body} {
			for _, n := range l {
				nodes[n] = 0
			}
		}
	}
	states := g.states(nodes)
	var left []api.Node
	for n, x := range g.F.Nodes {
		if nodes[n] < 0 {
			continue
		}
		nodes[n] = len(left)
		if x.State >= 0 {
			x.State = states[x.State]
		}
		left = append(left, x)
	}
	g.F.Nodes = left
	g.each(func(n int) int { return nodes[n] })
	for b := range g.F.Blocks {
		for _, l := range [][]int{g.F.Blocks[b].Phis, g.F.Blocks[b].Body} {
			for i := range l {
				l[i] = nodes[l[i]]
			}
		}
	}
	return ssa.Copy(g.F)
}

// states lets go the states that no node has which stands in a block, and answers where the others are then.
func (g *Graft) states(nodes []int) []int {
	const gone, beneath, own = -1, 0, 1
	as := make([]int, len(g.F.States))
	for s := range as {
		as[s] = gone
	}
	for n, x := range g.F.Nodes {
		if nodes[n] < 0 || x.State < 0 {
			continue
		}
		for k, s := range ssa.Chain(g.F, x.State) {
			if k == 0 {
				as[s] = own
			} else {
				as[s] = max(as[s], beneath)
			}
		}
	}
	var left []api.State
	for s, x := range g.F.States {
		if as[s] == gone {
			continue
		}
		if as[s] == beneath { // its Virtuals are not looked at, and may name what is gone
			x.Virtuals = nil
		}
		as[s] = len(left)
		if x.Up >= 0 {
			x.Up = as[x.Up]
		}
		left = append(left, x)
	}
	g.F.States = left
	return as
}

// Repred lets a block be come to from another block than from. Preds rise, so the phis' arguments move along.
func (g *Graft) Repred(b, from, now int) {
	x := &g.F.Blocks[b]
	k := slices.Index(x.Preds, from)
	preds := slices.Delete(slices.Clone(x.Preds), k, k+1)
	at, _ := slices.BinarySearch(preds, now)
	x.Preds = slices.Insert(preds, at, now)
	for _, n := range x.Phis {
		arg := g.F.Nodes[n].Args[k]
		args := slices.Delete(slices.Clone(g.F.Nodes[n].Args), k, k+1)
		g.F.Nodes[n].Args = slices.Insert(args, at, arg)
	}
}
