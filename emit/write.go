package emit

import (
	"slices"
	"strconv"
	"strings"

	"overdrive/alloc"
	"overdrive/api"
	"overdrive/bits"
	"overdrive/moves"
	"overdrive/prog"
)

const (
	// Move is the op of register code beside those of nodes: To has what From has.
	Move  = 100
	spare = 1000 // the place that no node has: the last cell
	none  = -1
)

// Op is an instruction of register code. Its values lie in cells: the registers, then the spills, then one that is spare.
type Op struct {
	Op, A, B      int
	N             int64
	To            int   // the cell of what it makes, or -1
	From          []int // the cells of its arguments
	Point         int   // its place among the points, or -1
	Jump          [2]int
	Ahead, Behind []int // of one with a point: the cells of references that are needed ahead of it, and behind it beside what it makes
}

// Ops is the code, as it is kept: it is only for looking.
func (c *Code) Ops() []Op { return c.ops }

// Cells is how many cells it has.
func (c *Code) Cells() int { return c.regs + c.result.Spills + 1 }

// Cell is the cell of a place.
func (c *Code) Cell(place int) int {
	switch {
	case place == spare:
		return c.Cells() - 1
	case place >= 0:
		return place
	}
	return c.regs - 1 - place
}

// writer writes code block by block; jumps name blocks at first.
type writer struct {
	c      *Code
	needed *alloc.Needed
	ops    []Op
	begins []int // of each block, its first op
	jumps  []int // the ops that jump to blocks
	points int
}

func write(c *Code) ([]Op, error) {
	w := &writer{c: c, needed: alloc.Find(c.f), begins: make([]int, len(c.f.Blocks))}
	for _, b := range c.result.Order {
		w.begins[b] = len(w.ops)
		if err := w.block(b); err != nil {
			return nil, err
		}
	}
	for _, k := range w.jumps {
		w.ops[k].Jump[0] = w.begins[w.ops[k].Jump[0]]
	}
	return w.ops, nil
}

func (w *writer) block(b int) error {
	ahead, behind := w.references(b)
	for _, n := range w.c.f.Blocks[b].Body {
		x := w.c.f.Nodes[n]
		o := Op{Op: x.Op, A: x.A, B: x.B, N: x.N, To: none, Point: none}
		for _, a := range x.Args {
			o.From = append(o.From, w.cell(a))
		}
		if x.Kind != "" {
			o.To = w.cell(n)
		}
		if x.State >= 0 {
			o.Point, o.Ahead, o.Behind = w.points, ahead[n], behind[n]
			w.points++
		}
		if x.Op != api.Goto {
			w.ops = append(w.ops, o)
		}
	}
	succ := w.c.f.Blocks[b].Succ
	branch := len(w.ops) - 1
	for k, s := range succ {
		if len(succ) == 2 {
			w.ops[branch].Jump[k] = len(w.ops)
		}
		if err := w.edge(b, s); err != nil {
			return err
		}
	}
	return nil
}

func (w *writer) cell(n int) int { return w.c.Cell(w.c.result.Places[n]) }

// references is, of each node with a state, the cells of the references that are needed ahead of it, and behind it.
func (w *writer) references(b int) (map[int][]int, map[int][]int) {
	ahead, behind := map[int][]int{}, map[int][]int{}
	last := none
	now := w.needed.Back(b, func(n int, s *bits.Set) {
		if last != none {
			ahead[last] = w.cells(s, none)
		}
		last = none
		if w.c.f.Nodes[n].State >= 0 {
			last = n
			behind[n] = w.cells(s, n)
		}
	})
	if last != none {
		ahead[last] = w.cells(now, none)
	}
	return ahead, behind
}

// cells is the cells of the references of a set, but for one.
func (w *writer) cells(s *bits.Set, but int) []int {
	var out []int
	for n := range s.Each() {
		if n != but && w.c.f.Nodes[n].Kind == "R" {
			out = append(out, w.cell(n))
		}
	}
	slices.Sort(out)
	return out
}

// edge moves what the phis of a block are to be, all at once, and jumps there.
func (w *writer) edge(from, to int) error {
	b := w.c.f.Blocks[to]
	k := slices.Index(b.Preds, from)
	var l []moves.Move
	for _, n := range b.Phis {
		l = append(l, moves.Move{To: w.c.result.Places[n], From: w.c.result.Places[w.c.f.Nodes[n].Args[k]]})
	}
	l, err := moves.Order(l, spare)
	if err != nil {
		return err
	}
	for _, m := range l {
		w.ops = append(w.ops, Op{Op: Move, To: w.c.Cell(m.To), From: []int{w.c.Cell(m.From)}, Point: none})
	}
	w.jumps = append(w.jumps, len(w.ops))
	w.ops = append(w.ops, Op{Op: api.Goto, To: none, Point: none, Jump: [2]int{to, 0}})
	return nil
}

// Text tells the code.
func (c *Code) Text() string {
	c.textOnce.Do(func() {
		var b strings.Builder
		number := func(name string, n int) { b.WriteString(name + strconv.Itoa(n)) }
		number("method ", c.Method())
		number(" entry ", c.Entry())
		number(" regs ", c.regs)
		number(" spills ", c.Spills())
		for k, o := range c.ops {
			number("\n", k)
			number(" "+name(o.Op)+" ", o.A)
			number(" ", o.B)
			b.WriteString(" " + strconv.FormatInt(o.N, 10))
			number(" to ", o.To)
			for _, from := range o.From {
				number(" from ", from)
			}
			number(" jump ", o.Jump[0])
			number(" ", o.Jump[1])
			number(" point ", o.Point)
		}
		c.text = b.String()
	})
	return c.text
}

func name(op int) string {
	if op == Move {
		return "move"
	}
	return prog.Name(op)
}
