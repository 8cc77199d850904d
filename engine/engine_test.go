package engine

import (
	"reflect"
	"testing"

	"overdrive/api"
	"overdrive/emit"
	"overdrive/interp"
	"overdrive/model"
	"overdrive/sample"
	"overdrive/script"
)

func hooks(ahead func(point int)) Hooks {
	return Hooks{Ahead: ahead, Code: func(int) *emit.Code { return nil }, Begun: func() {}, Asked: func() {}, Down: func() {}}
}

// TestDownEverywhere gives up every code as soon as it comes to a safepoint.
func TestDownEverywhere(t *testing.T) {
	downs := 0
	for seed := range uint64(150) {
		v := sample.Program(seed)
		input := sample.Inputs(seed)
		want, _ := model.Run(v, input, 60)
		words, stack, _ := model.Peak(v, input, 60)
		if words > 9000 || stack > api.MaxWords {
			continue
		}
		codes := make([]*emit.Code, len(v.Program().Methods))
		for m := range codes {
			codes[m], _ = emit.Compile(v, m, 0, script.Unpack(15+32*int(seed%16)))
		}
		var e *Engine
		h := hooks(func(int) { e.GiveUp() })
		h.Code = func(method int) *emit.Code { return codes[method] }
		h.Down = func() { downs++ }
		e, err := New(v, input, 60, interp.Enough(v, input, 60, words, stack, 20), h)
		if err != nil {
			t.Fatal(err)
		}
		if o := e.Run(); !reflect.DeepEqual(o, want) || !e.Ended() || !reflect.DeepEqual(e.Run(), want) {
			t.Fatal(seed, o, want)
		}
		if e.GiveUp() {
			t.Fatal("nothing is left to be given up")
		}
	}
	if downs < 300 {
		t.Error(downs)
	}
}

func TestNothingOnTop(t *testing.T) {
	v := sample.Program(1)
	var e *Engine
	e, err := New(v, nil, 50, interp.Limits{Heap: 9000, Stack: 9000}, hooks(func(int) {
		if _, _, is := e.Top(); is || e.GiveUp() {
			t.Error("there is no code")
		}
	}))
	if err != nil {
		t.Fatal(err)
	}
	e.Run()
	if _, _, is := e.Back(); is {
		t.Error("it has ended")
	}
}
