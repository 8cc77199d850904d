package escape

import (
	"slices"
	"strconv"

	"overdrive/api"
	"overdrive/graft"
	"overdrive/ssa"
)

// writer writes the function anew, without the objects that go.
type writer struct {
	*split
	g      *graft.Graft
	blanks map[blankOf]int
	states map[string]int // those that were laid, by their texts
}

// blankOf is the 0, or the none, that stands where an object was made.
type blankOf struct {
	object int
	kind   string
}

func (s *split) rewrite() api.Function {
	w := &writer{split: s, g: graft.New(s.f), blanks: map[blankOf]int{}, states: map[string]int{}}
	w.phis()
	s.each(func(n int, now []int) {
		x := s.f.Nodes[n]
		switch {
		case x.Op == api.Get && s.goes[x.Args[0]]:
			k := s.first[x.Args[0]] + x.B
			w.g.Become(n, w.node(k, now[k]))
		case w.gone(n):
		case x.Op == api.Is && s.goes[x.Args[0]]:
			w.is(n)
		case x.State >= 0:
			w.state(n, now)
		}
	})
	for n := range s.f.Nodes {
		if s.f.Nodes[n].Op != api.Get && s.gone(n) {
			w.g.Drop(n)
		}
	}
	w.g.Rename()
	w.g.Phis()
	return w.g.Finish()
}

func (w *writer) is(n int) {
	x := api.Node{Op: api.Const, Kind: "I", State: -1}
	if y := w.f.Nodes[n]; y.A == w.f.Nodes[y.Args[0]].A {
		x.N = 1
	}
	w.g.F.Nodes[n] = x
}

// phis lays the phis that are needed, then their arguments, which may be phis themselves.
func (w *writer) phis() {
	for _, at := range w.needed {
		n := w.g.Add(api.Node{Op: api.Phi, Kind: w.fields[at.field].kind, State: -1})
		w.need[at] = n
		b := &w.g.F.Blocks[at.block]
		b.Phis = append(b.Phis, n)
	}
	for _, at := range w.needed {
		var args []int
		for _, p := range w.f.Blocks[at.block].Preds {
			args = append(args, w.node(at.field, w.fields[at.field].end(p)))
		}
		w.g.F.Nodes[w.need[at]].Args = args
	}
}

// node is the node that a value of a field is.
func (w *writer) node(k, value int) int {
	if b, is := phiAt(value); is {
		return w.need[place{k, b}]
	}
	if value == blank {
		return w.blank(w.fields[k].object, w.fields[k].kind)
	}
	return value
}

// blank lays 0, or none, where an object was made.
func (w *writer) blank(object int, kind string) int {
	at := blankOf{object, kind}
	if n, is := w.blanks[at]; is {
		return n
	}
	x := api.Node{Op: api.Const, Kind: kind, State: -1}
	if kind == "R" {
		x.Op = api.Null
	}
	n := w.g.Add(x)
	body := &w.g.F.Blocks[w.order.Block[object]].Body
	*body = slices.Insert(*body, slices.Index(*body, object), n)
	w.blanks[at] = n
	return n
}

// state gives a node a state in which the objects that go are not there. Of one state that several nodes have each may have one of its own then, since fields change.
func (w *writer) state(n int, now []int) {
	named := w.named(n, now)
	if len(named) == 0 {
		return
	}
	chain := ssa.Chain(w.f, w.f.Nodes[n].State)
	before := len(w.f.States[chain[0]].Virtuals)
	slots := func(l []int) []int {
		l = slices.Clone(l)
		for i, slot := range l {
			if v := slices.Index(named, slot); v >= 0 {
				l[i] = -2 - before - v
			}
		}
		return l
	}
	up := -1
	for k := len(chain) - 1; k >= 0; k-- {
		x := w.f.States[chain[k]]
		x.Up, x.Locals, x.Stack = up, slots(x.Locals), slots(x.Stack)
		virtuals := x.Virtuals
		x.Virtuals = nil
		if k == 0 {
			for _, v := range virtuals {
				x.Virtuals = append(x.Virtuals, api.Virtual{Class: v.Class, Fields: slots(v.Fields)})
			}
			for _, m := range named {
				x.Virtuals = append(x.Virtuals, api.Virtual{Class: w.f.Nodes[m].A, Fields: slots(w.values(m, now))})
			}
		}
		up = w.lay(x)
	}
	w.g.F.Nodes[n].State = up
}

// values is the nodes of an object's fields.
func (w *writer) values(m int, now []int) []int {
	var out []int
	for b := range w.p.Classes[w.f.Nodes[m].A].Fields {
		k := w.first[m] + b
		out = append(out, w.node(k, now[k]))
	}
	return out
}

// lay lays a state, if there is none like it yet.
func (w *writer) lay(s api.State) int {
	text := key(s)
	if at, is := w.states[text]; is {
		return at
	}
	at := w.g.AddState(s)
	w.states[text] = at
	return at
}

func key(s api.State) string {
	var b []byte
	put := func(l ...int) {
		for _, n := range l {
			b = append(strconv.AppendInt(b, int64(n), 10), ' ')
		}
		b = append(b, ';')
	}
	put(s.Method, s.PC, s.Up)
	put(s.Locals...)
	put(s.Stack...)
	for _, v := range s.Virtuals {
		put(v.Class)
		put(v.Fields...)
	}
	return string(b)
}
