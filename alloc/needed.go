package alloc

import (
	"slices"

	"overdrive/api"
	"overdrive/bits"
	"overdrive/ssa"
)

// Needed is which nodes are needed where.
type Needed struct {
	f         api.Function
	begin, at []*bits.Set // of each block: at its beginning, at its end
}

// Find works out what is needed at the beginnings and ends of blocks, of any function.
func Find(f api.Function) *Needed {
	x := &Needed{f: f}
	for range f.Blocks {
		x.begin = append(x.begin, bits.New(len(f.Nodes)))
		x.at = append(x.at, bits.New(len(f.Nodes)))
	}
	for b := range f.Blocks {
		x.along(b)
	}
	for again := true; again; {
		again = false
		for b := len(f.Blocks) - 1; b >= 0; b-- {
			for _, s := range f.Blocks[b].Succ {
				if s >= 0 && s < len(x.begin) {
					x.at[b].Join(x.begin[s])
				}
			}
			if x.begin[b].Join(x.ahead(b)) {
				again = true
			}
		}
	}
	return x
}

// along lays what a block's phis ask for at the ends of its Preds.
func (x *Needed) along(b int) {
	for _, n := range x.f.Blocks[b].Phis {
		if n < 0 || n >= len(x.f.Nodes) {
			continue
		}
		args := x.f.Nodes[n].Args
		for k, p := range x.f.Blocks[b].Preds {
			if k < len(args) && p >= 0 && p < len(x.at) {
				x.at[p].Add(args[k])
			}
		}
	}
}

// ahead is what is needed at a block's beginning, by what is needed at its end.
func (x *Needed) ahead(b int) *bits.Set {
	now := x.Back(b, func(int, *bits.Set) {})
	for _, n := range x.f.Blocks[b].Phis {
		now.Drop(n)
	}
	return now
}

// Back goes through a block's Body from its end, with what is needed behind each node, and answers what is needed ahead of all.
func (x *Needed) Back(b int, visit func(n int, behind *bits.Set)) *bits.Set {
	now := x.at[b].Clone()
	for _, n := range slices.Backward(x.f.Blocks[b].Body) {
		if n < 0 || n >= len(x.f.Nodes) {
			continue
		}
		visit(n, now)
		now.Drop(n)
		for _, a := range x.f.Nodes[n].Args {
			now.Add(a)
		}
		for named := range ssa.Named(x.f, n) {
			now.Add(named)
		}
	}
	return now
}
