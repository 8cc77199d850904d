package vm

import (
	"reflect"
	"testing"

	"overdrive/api"
	"overdrive/frames"
	"overdrive/interp"
	"overdrive/model"
	"overdrive/sample"
	"overdrive/script"
)

// TestVirtualIsReference has two objects that name one another and are not there, at a Call.
func TestVirtualIsReference(t *testing.T) {
	v := info(t, "", []api.Instr{in(api.Call, 1), in(api.Ret)}, api.Method{Locals: "RRR", Ret: "I", Code: []api.Instr{
		in(api.New), in(api.Store, 0), in(api.New), in(api.Store, 1),
		in(api.Load, 0), in(api.Load, 1), in(api.Put, 0, 1), in(api.Load, 1), in(api.Load, 0), in(api.Put, 0, 1),
		in(api.Load, 1), in(api.Load, 2), in(api.Call, 2), in(api.Store, 2), in(api.Call, 3), in(api.Put), in(api.Load, 1), in(api.Get), in(api.Ret)}},
		api.Method{Params: "R", Ret: "R", Code: []api.Instr{in(api.Load), in(api.Ret)}},
		api.Method{Ret: "I", Code: []api.Instr{in(api.Const, 5), in(api.Ret)}})
	m := of(t, v, nil, 50, interp.Limits{Heap: 200, Nursery: 20, Stack: 100}, api.Pick{Act: api.Up, A: 1, B: script.Pack(script.Options{Escape: true, Regs: 4})})
	var snaps []Snap
	m.Watch(func(s Snap) { snaps = append(snaps, s) })
	if o := m.Run(); o.Kind != api.Done || o.Value != 5 {
		t.Error(o)
	}
	object := func(n int64) Val { return Val{Ref: true, Virtual: true, N: n} }
	none := Val{Ref: true}
	// the object of local 1 is named first
	want := func(point, pc int, stack ...Val) Snap {
		return Snap{Point: point, Op: api.Call, Compiled: true,
			Frames:   []View{{Method: 1, PC: pc, Locals: []Val{{}, object(0), {}}, Stack: stack}},
			Virtuals: []api.Object{{}, {}},
			Loose:    [][]Val{{{}, object(1)}, {{}, object(0)}}}
	}
	if !reflect.DeepEqual(snaps, []Snap{want(1, 12, object(0), none), want(2, 14, object(0))}) {
		t.Error(snaps)
	}
}

// TestGivenUp gives up the code on top as soon as it was told of: the frames, and what is made, are what was told.
func TestGivenUp(t *testing.T) {
	virtual := 0
	for seed := range uint64(200) {
		v := sample.Program(seed)
		input := sample.Inputs(seed)
		want, _ := model.Run(v, input, 60)
		var picks []api.Pick
		for k := range v.Program().Methods {
			picks = append(picks, api.Pick{Act: api.Up, A: k, B: script.Pack(script.Options{Inline: seed%2 > 0, Fold: true, Gvn: true, Escape: true, Regs: 1 + int(seed%16)})})
		}
		downs := int64(0)
		m := of(t, v, input, 60, interp.Limits{Heap: api.MaxWords, Stack: api.MaxWords}, picks...)
		m.Watch(func(s Snap) {
			checkSnap(t, v, s)
			m.engine.GiveUp()
			downs++
			virtual += len(s.Virtuals)
			checkFrames(t, m, s)
		})
		if o := m.Run(); !reflect.DeepEqual(o, want) || m.Tally().Downs != downs || m.Tally().Majors > 0 {
			t.Fatal(seed, o, want)
		}
	}
	if virtual < 100 {
		t.Error(virtual)
	}
}

// checkFrames asks that the frames on top, and the objects that were made, are those that were told of.
func checkFrames(t *testing.T, m *VM, s Snap) {
	t.Helper()
	stack, h := m.engine.Gear().Stack, m.engine.Gear().Heap
	made := map[int64]int64{}
	var look func(x Val, is frames.Slot)
	look = func(x Val, is frames.Slot) {
		r, known := made[x.N]
		switch {
		case x == Val{}:
			if is.N != 0 {
				t.Fatal("something", x, is, s)
			}
		case !x.Virtual:
			if is != (frames.Slot{Ref: x.Ref, N: x.N}) {
				t.Fatal("another value", x, is, s)
			}
		case !is.Ref || known && r != is.N:
			t.Fatal("another object", x, is, s)
		case !known:
			made[x.N] = is.N
			class, n, _ := h.Is(int(is.N))
			if class != s.Virtuals[x.N].Class || n != len(s.Loose[x.N]) {
				t.Fatal("another class", x, class, s)
			}
			for k, field := range s.Loose[x.N] {
				value, _ := h.Get(int(is.N), k)
				look(field, frames.Slot{Ref: h.Ref(int(is.N), k), N: value})
			}
		}
	}
	for k, f := range s.Frames {
		method, pc, locals, values, is := stack.At(stack.Len() - len(s.Frames) + k)
		if k+1 < len(s.Frames) {
			pc--
		}
		if !is || method != f.Method || pc != f.PC || len(locals) != len(f.Locals) || len(values) != len(f.Stack) {
			t.Fatal("another frame", method, pc, s)
		}
		for i, x := range f.Locals {
			look(x, locals[i])
		}
		for i, x := range f.Stack {
			look(x, values[i])
		}
	}
	seen := map[int64]int{}
	for _, r := range made {
		seen[r]++
	}
	if len(seen) != len(s.Virtuals) {
		t.Fatal("two are one", made, s)
	}
}
