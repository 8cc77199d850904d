package inline

import (
	"slices"

	"overdrive/api"
	"overdrive/ssa"
)

// beneath lays the states that lie beneath those of the callee: the call's, without its arguments, and those beneath it. It answers the objects that are not there which these name: the callee's states have them.
func (l *layer) beneath() []api.Virtual {
	chain := ssa.Chain(l.F, l.state)
	slices.Reverse(chain)
	var states []api.State
	for _, s := range chain {
		x := ssa.CopyState(l.F.States[s])
		x.Virtuals = nil
		states = append(states, x)
	}
	last := &states[len(states)-1]
	last.Stack = last.Stack[:len(last.Stack)-len(l.args)]
	virtuals := l.keep(states)
	l.base = -1
	for _, x := range states {
		x.Up = l.base
		l.base = l.AddState(x)
	}
	return virtuals
}

// keep numbers the virtual objects anew that states name, or other such ones; the arguments may have named more.
func (l *layer) keep(states []api.State) []api.Virtual {
	all := l.F.States[l.state].Virtuals
	number := map[int]int{}
	var kept []api.Virtual
	meet := func(list []int) {
		for i, slot := range list {
			if slot > -2 {
				continue
			}
			if _, is := number[slot]; !is {
				number[slot] = -2 - len(kept)
				kept = append(kept, api.Virtual{Class: all[-2-slot].Class, Fields: slices.Clone(all[-2-slot].Fields)})
			}
			list[i] = number[slot]
		}
	}
	for _, s := range states {
		meet(s.Locals)
		meet(s.Stack)
	}
	for k := 0; k < len(kept); k++ {
		meet(kept[k].Fields)
	}
	return kept
}
