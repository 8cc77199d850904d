package emit

import (
	"slices"

	"overdrive/ssa"
)

// stated goes through the nodes with a state, in the order of the points.
func (c *Code) stated(yield func(n int) bool) {
	for _, b := range c.result.Order {
		for _, n := range c.f.Blocks[b].Body {
			if c.f.Nodes[n].State >= 0 && !yield(n) {
				return
			}
		}
	}
}

// At is a point as it is kept: it is only for looking.
func (c *Code) At(k int) *Point {
	c.pointsOnce.Do(func() {
		for n := range c.stated {
			c.points = append(c.points, c.point(n))
		}
	})
	return &c.points[k]
}

// Points is the points, block by block.
func (c *Code) Points() []Point {
	var out []Point
	k := 0
	for range c.stated {
		out = append(out, copyPoint(*c.At(k)))
		k++
	}
	return out
}

func copyPoint(p Point) Point {
	p.State = ssa.CopyState(p.State)
	p.Beneath = slices.Clone(p.Beneath)
	for i := range p.Beneath {
		p.Beneath[i] = ssa.CopyState(p.Beneath[i])
	}
	p.Places, p.Map = slices.Clone(p.Places), slices.Clone(p.Map)
	return p
}

// point numbers the nodes that a node's state names as they are named for the first time.
func (c *Code) point(n int) Point {
	chain := ssa.Chain(c.f, c.f.Nodes[n].State)
	p := Point{Op: c.f.Nodes[n].Op}
	number := map[int]int{}
	values := func(l []int) {
		for i, slot := range l {
			if slot < 0 {
				continue
			}
			if _, is := number[slot]; !is {
				number[slot] = len(p.Places)
				p.Places = append(p.Places, c.result.Places[slot])
				if c.f.Nodes[slot].Kind == "R" {
					p.Map = append(p.Map, c.result.Places[slot])
				}
			}
			l[i] = number[slot]
		}
	}
	for k, at := range chain {
		s := ssa.CopyState(c.f.States[at])
		s.Up = 0
		values(s.Locals)
		values(s.Stack)
		if k > 0 {
			s.Virtuals = nil
			p.Beneath = append(p.Beneath, s)
			continue
		}
		for _, v := range s.Virtuals {
			values(v.Fields)
		}
		p.State, p.Method, p.PC = s, s.Method, s.PC
	}
	slices.Sort(p.Map)
	p.Map = slices.Compact(p.Map)
	return p
}
