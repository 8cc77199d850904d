package live

import (
	"math"
	"slices"
	"sync"
	"testing"

	"overdrive/api"
	"overdrive/sample"
	"overdrive/verify"
)

var in = sample.In

func of(t *testing.T, params, locals string, code ...api.Instr) (*verify.Info, *Map) {
	t.Helper()
	v, err := verify.Of(api.Program{Methods: []api.Method{{Code: []api.Instr{in(api.Ret, 0)}}, {Params: params, Locals: locals, Ret: "I", Code: code}}})
	if err != nil {
		t.Fatal(err)
	}
	return v, Of(v, 1)
}

func TestExample(t *testing.T) {
	_, m := of(t, "I", "I", in(api.Load, 0), in(api.Store, 1), in(api.Load, 1), in(api.Ret, 0))
	if !slices.Equal(m.Locals(0), []int{0}) || !slices.Equal(m.Locals(2), []int{1}) || !slices.Equal(m.Behind(1), []int{1}) {
		t.Error(m.Locals(0), m.Locals(2), m.Behind(1))
	}
	if m.Locals(1) != nil || m.Locals(3) != nil || m.Behind(3) != nil {
		t.Error("dead")
	}
}

// TestLoop has a local that is asked for only round the loop, and one that is stored ahead of each load.
func TestLoop(t *testing.T) {
	_, m := of(t, "IIR", "I",
		in(api.Load, 0), in(api.Zero, 7), // 0
		in(api.Load, 1), in(api.Store, 0), // 2
		in(api.Load, 0), in(api.Store, 3), // 4
		in(api.Jump, 0),                 // 6
		in(api.Load, 0), in(api.Ret, 0), // 7
		in(api.Load, 2), in(api.Pop, 0), in(api.Jump, 0)) // never reached
	want := [][]int{{0, 1}, {0, 1}, {1}, {1}, {0, 1}, {0, 1}, {0, 1}, {0}, nil, nil, nil, nil}
	behind := [][]int{{0, 1}, {0, 1}, {1}, {0, 1}, {0, 1}, {0, 1}, {0, 1}, nil, nil, nil, nil, nil}
	for pc := range want {
		if got := m.Locals(pc); !slices.Equal(got, want[pc]) {
			t.Error(pc, got)
		}
		if got := m.Behind(pc); !slices.Equal(got, behind[pc]) {
			t.Error("behind", pc, got)
		}
		for local := -1; local < 5; local++ {
			if m.Has(pc, local) != slices.Contains(want[pc], local) {
				t.Error(pc, local)
			}
		}
	}
}

func TestRefs(t *testing.T) {
	_, m := of(t, "RIR", "", in(api.Null, 0), in(api.Load, 1), in(api.Pop, 0), in(api.Load, 2), in(api.Same, 0), in(api.Ret, 0))
	want := [][]int{{2}, {2, 3}, {2, 3}, {2, 3}, {3, 4}, nil}
	for pc := range want {
		if got := m.Refs(pc); !slices.Equal(got, want[pc]) {
			t.Error(pc, got)
		}
	}
}

func TestNothing(t *testing.T) {
	v, m := of(t, "I", "", in(api.Load, 0), in(api.Ret, 0))
	for _, m := range []*Map{m, Of(v, 2), Of(v, -1)} {
		for _, pc := range []int{-1, 2, math.MaxInt} {
			if m.Locals(pc) != nil || m.Behind(pc) != nil || m.Refs(pc) != nil || m.Has(pc, 0) {
				t.Error(pc)
			}
		}
	}
	if Of(v, 2).Locals(0) != nil || Of(v, -1).Has(0, 0) {
		t.Error("no such method")
	}
}

func TestOnce(t *testing.T) {
	v, m := of(t, "IR", "", in(api.Load, 0), in(api.Load, 1), in(api.Pop, 0), in(api.Ret, 0))
	if v.Asked() != 0 {
		t.Error("asked too early")
	}
	m.Locals(0)
	n := v.Asked()
	var w sync.WaitGroup
	for range 8 {
		w.Go(func() {
			if !m.Has(0, 1) || !slices.Equal(m.Locals(0), []int{0, 1}) || !slices.Equal(m.Behind(0), []int{1}) || !slices.Equal(m.Refs(0), []int{1}) {
				t.Error("together")
			}
		})
	}
	w.Wait()
	if n == 0 || v.Asked() != n {
		t.Error("asked again", n, v.Asked())
	}
}

func TestNewMemory(t *testing.T) {
	_, m := of(t, "R", "", in(api.Load, 0), in(api.Pop, 0), in(api.Const, 0), in(api.Ret, 0))
	for _, f := range []func() []int{func() []int { return m.Locals(0) }, func() []int { return m.Refs(0) }} {
		f()[0] = 7
		if f()[0] == 7 {
			t.Error("memory is shared")
		}
	}
}
