package escape

import (
	"overdrive/api"
	"overdrive/flow"
	"overdrive/ssa"
)

// What is known of a field at a place: a node (0 and above), or one of these; from phiOf(0) down it is a phi at the beginning of a block.
const (
	unknown = -1 // no way was looked at yet
	blank   = -2 // 0, or none: nothing was put since the object was made
)

func phiOf(block int) int { return -3 - block }

// phiAt is the block of a phi.
func phiAt(value int) (int, bool) { return -3 - value, value <= phiOf(0) }

// field is a field of an object that goes.
type field struct {
	object, b int
	kind      string
	start     []int // what is known at the beginning of each block below the object's
	last      []int // what was put last in each block, or unknown
}

// place is where a phi of a field stands.
type place struct{ field, block int }

// split takes objects apart: what is known of their fields, and which phis that needs.
type split struct {
	p      api.Program
	f      api.Function
	goes   []bool
	order  *ssa.Order
	walk   []int // the blocks in reverse postorder
	fields []field
	first  []int // of each object that goes, the place of its first field
	needed []place
	need   map[place]int
	stays  []int // objects that can't go, since a phi would need one
}

func newSplit(p api.Program, f api.Function, goes []bool) *split {
	s := &split{p: p, f: f, goes: goes, order: ssa.Placing(f), walk: flow.Order(ssa.Graph(f)), first: make([]int, len(goes)), need: map[place]int{}}
	for n, is := range goes {
		if !is {
			continue
		}
		s.first[n] = len(s.fields)
		kinds := p.Classes[f.Nodes[n].A].Fields
		for b := range kinds {
			s.fields = append(s.fields, field{object: n, b: b, kind: kinds[b : b+1], last: s.blanks(n)})
		}
	}
	for b, x := range f.Blocks {
		for _, n := range x.Body {
			if y := f.Nodes[n]; y.Op == api.Put && goes[y.Args[0]] {
				s.fields[s.first[y.Args[0]]+y.B].last[b] = y.Args[1]
			}
		}
	}
	for k := range s.fields {
		s.flow(&s.fields[k])
	}
	return s
}

// blanks is what was put last where nothing was: in the object's own block it is blank, elsewhere what it was.
func (s *split) blanks(n int) []int {
	l := make([]int, len(s.f.Blocks))
	for b := range l {
		l[b] = unknown
	}
	l[s.order.Block[n]] = blank
	return l
}

// end is what is known of a field at the end of a block.
func (x *field) end(b int) int {
	if x.last[b] != unknown {
		return x.last[b]
	}
	return x.start[b]
}

// flow finds what is known at the beginnings of blocks: what all ways agree in, else a phi. As each phi is a new thing to agree in it begins anew with each.
func (s *split) flow(x *field) {
	phis := make([]bool, len(s.f.Blocks))
	for {
		s.flood(x, phis)
		at, is := s.disagree(x, phis)
		if !is {
			return
		}
		phis[at] = true
	}
}

func (s *split) below(x *field, b int) bool {
	own := s.order.Block[x.object]
	return b != own && s.order.Tree.Above(own, b)
}

func (s *split) flood(x *field, phis []bool) {
	x.start = make([]int, len(phis))
	for b, is := range phis {
		x.start[b] = unknown
		if is {
			x.start[b] = phiOf(b)
		}
	}
	for again := true; again; {
		again = false
		for _, b := range s.walk {
			if x.start[b] != unknown || !s.below(x, b) {
				continue
			}
			for _, p := range s.f.Blocks[b].Preds {
				if v := x.end(p); v != unknown {
					x.start[b], again = v, true
					break
				}
			}
		}
	}
}

// disagree is the first block whose ways do not agree, and that has no phi yet.
func (s *split) disagree(x *field, phis []bool) (int, bool) {
	for _, b := range s.walk {
		if phis[b] || !s.below(x, b) {
			continue
		}
		for _, p := range s.f.Blocks[b].Preds {
			if x.end(p) != x.start[b] {
				return b, true
			}
		}
	}
	return 0, false
}

// gone tells whether a node goes with its object.
func (s *split) gone(n int) bool {
	x := s.f.Nodes[n]
	return x.Op == api.New && s.goes[n] || (x.Op == api.Get || x.Op == api.Put) && s.goes[x.Args[0]]
}

// each goes through the nodes, with what is known of all fields ahead of each.
func (s *split) each(visit func(n int, now []int)) {
	for b, x := range s.f.Blocks {
		now := make([]int, len(s.fields))
		for k := range s.fields {
			now[k] = s.fields[k].start[b]
		}
		for _, n := range x.Body {
			visit(n, now)
			s.apply(n, now)
		}
	}
}

// apply lays what is known behind a node.
func (s *split) apply(n int, now []int) {
	x := s.f.Nodes[n]
	switch {
	case x.Op == api.New && s.goes[n]:
		for b := range s.p.Classes[x.A].Fields {
			now[s.first[n]+b] = blank
		}
	case x.Op == api.Put && s.goes[x.Args[0]]:
		now[s.first[x.Args[0]]+x.B] = x.Args[1]
	}
}

// ask finds the phis that are needed, and answers the objects that have to stay for them.
func (s *split) ask() []int {
	s.each(func(n int, now []int) {
		x := s.f.Nodes[n]
		if x.Op == api.Get && s.goes[x.Args[0]] {
			k := s.first[x.Args[0]] + x.B
			s.want(k, now[k])
		}
		if x.State >= 0 && !s.gone(n) {
			for _, m := range s.named(n, now) {
				for b := range s.p.Classes[s.f.Nodes[m].A].Fields {
					s.want(s.first[m]+b, now[s.first[m]+b])
				}
			}
		}
	})
	for k := 0; k < len(s.needed); k++ {
		at := s.needed[k]
		for _, p := range s.f.Blocks[at.block].Preds {
			v := s.fields[at.field].end(p)
			if v >= 0 && s.goes[v] {
				s.stays = append(s.stays, v, s.fields[at.field].object)
				continue
			}
			s.want(at.field, v)
		}
	}
	return s.stays
}

// want takes down the phi that a value is, if it is one.
func (s *split) want(k, value int) {
	b, is := phiAt(value)
	if !is {
		return
	}
	if _, again := s.need[place{k, b}]; !again {
		s.need[place{k, b}] = -1
		s.needed = append(s.needed, place{k, b})
	}
}

// named is the objects that go and that a node's state names, by its slots or by the fields of such ones, in the order in which they are named.
func (s *split) named(n int, now []int) []int {
	var out []int
	met := map[int]struct{}{}
	meet := func(m int) {
		if _, again := met[m]; m >= 0 && s.goes[m] && !again {
			met[m] = struct{}{}
			out = append(out, m)
		}
	}
	for m := range ssa.Named(s.f, n) {
		meet(m)
	}
	for k := 0; k < len(out); k++ {
		for b := range s.p.Classes[s.f.Nodes[out[k]].A].Fields {
			meet(now[s.first[out[k]]+b])
		}
	}
	return out
}
