package eval

import (
	"slices"

	"overdrive/api"
	"overdrive/model"
	"overdrive/prog"
	"overdrive/ssa"
)

// giveUp makes frames of a state, in place of the function on top.
func (r *run) giveUp(a *active, state int) {
	r.tally.Downs++
	f := a.function
	chain := ssa.Chain(*f, state)
	if !r.room(len(chain) - 1) {
		return
	}
	g := &rebuilder{run: r, values: a.values}
	g.objects(f.States[state].Virtuals)
	slices.Reverse(chain)
	r.actives = r.actives[:len(r.actives)-1]
	for _, s := range chain {
		frame := g.frame(f.States[s])
		if s != state {
			frame.PC++
		}
		r.actives = append(r.actives, active{frame: frame})
	}
}

// rebuilder makes what is not there: objects, then frames.
type rebuilder struct {
	run    *run
	values []model.Value
	made   []model.Value // the virtual objects
}

// objects makes all objects ahead of any field, since they may name one another.
func (g *rebuilder) objects(l []api.Virtual) {
	for _, v := range l {
		g.made = append(g.made, g.run.world.New(v.Class))
	}
	for k, v := range l {
		for i, slot := range v.Fields {
			g.run.world.Field(g.made[k], i, g.slot(slot, false))
		}
	}
}

func (g *rebuilder) slot(slot int, ref bool) model.Value {
	switch {
	case slot >= 0:
		return g.values[slot]
	case slot == -1:
		return model.Blank(ref)
	}
	return g.made[-2-slot]
}

func (g *rebuilder) frame(s api.State) model.Frame {
	kinds := prog.Kinds(g.run.program.Methods[s.Method])
	f := model.Frame{Method: s.Method, PC: s.PC}
	for i, slot := range s.Locals {
		f.Locals = append(f.Locals, g.slot(slot, kinds[i] == 'R'))
	}
	for _, slot := range s.Stack {
		f.Stack = append(f.Stack, g.slot(slot, false))
	}
	return f
}
