package sample

import (
	"reflect"
	"testing"

	"overdrive/api"
	"overdrive/model"
	"overdrive/prog"
)

// TestSpread asks that the samples come to every kind of end, to every instruction, and some way ahead of the end.
func TestSpread(t *testing.T) {
	ends := map[int]int{}
	traps := map[int]int{}
	ops := map[int]int{}
	calls, backs := 0, 0
	for seed := range uint64(600) {
		v := Program(seed)
		p := v.Program()
		o, err := model.Run(v, Inputs(seed), 150)
		if err != nil {
			t.Fatal(err)
		}
		ends[o.Kind]++
		traps[o.Trap]++
		for _, m := range p.Methods {
			for pc, i := range m.Code {
				ops[i.Op]++
				if i.Op == api.Call {
					calls++
				}
				if prog.Back(m, pc) {
					backs++
				}
			}
		}
	}
	t.Log(ends, traps, calls, backs)
	for k := api.Done; k <= api.Fuel; k++ {
		if ends[k] < 60 {
			t.Error("ends", ends)
		}
	}
	for op := api.Const; op <= api.Out; op++ {
		if ops[op] < 20 {
			t.Error(prog.Name(op), ops[op])
		}
	}
}

func TestSame(t *testing.T) {
	for seed := range uint64(20) {
		if !prog.Same(Program(seed).Program(), Program(seed).Program()) || !reflect.DeepEqual(Inputs(seed), Inputs(seed)) || !reflect.DeepEqual(Picks(seed, 3), Picks(seed, 3)) {
			t.Error(seed)
		}
	}
}
