package interp

import (
	"math"
	"reflect"
	"slices"
	"testing"

	"overdrive/api"
	"overdrive/frames"
	"overdrive/gc"
	"overdrive/heap"
	"overdrive/model"
	"overdrive/sample"
	"overdrive/verify"
)

var in = sample.In

func info(t *testing.T, locals string, main []api.Instr, more ...api.Method) *verify.Info {
	t.Helper()
	v, err := verify.Of(api.Program{Classes: []api.Class{{Fields: "IR"}}, Methods: append([]api.Method{{Locals: locals, Ret: "I", Code: main}}, more...)})
	if err != nil {
		t.Fatal(err)
	}
	return v
}

func machine(t *testing.T, v *verify.Info, input []int64, fuel int, l Limits) *Machine {
	t.Helper()
	m, err := New(v, input, fuel, l)
	if err != nil {
		t.Fatal(err)
	}
	return m
}

func TestNew(t *testing.T) {
	v := info(t, "", []api.Instr{in(api.Const, 7), in(api.Ret)})
	for _, x := range []struct {
		fuel int
		l    Limits
	}{
		{-1, Limits{-1, 0, 0}}, {api.MaxFuel + 1, Limits{}}, {0, Limits{Heap: -1}}, {0, Limits{Heap: api.MaxWords + 1}}, {0, Limits{Heap: 5, Nursery: 6}}, {0, Limits{Nursery: -1}}, {0, Limits{Stack: -1}}, {0, Limits{Stack: math.MaxInt}},
	} {
		if m, err := New(v, nil, x.fuel, x.l); m != nil || err != api.ErrLimit {
			t.Error(x)
		}
	}
	if o := machine(t, v, nil, 0, Limits{Stack: 5}).Run(); !reflect.DeepEqual(o, api.Outcome{Kind: api.Done, Value: 7}) {
		t.Error(o)
	}
	m := machine(t, v, []int64{3}, 8, Limits{Stack: 4})
	if m.Step() || m.Frames().Len() != 0 || !reflect.DeepEqual(m.Run(), api.Outcome{Kind: api.Overflow}) {
		t.Error("no room for the first frame")
	}
	if fuel, left := m.Left(); fuel != 8 || left != 1 {
		t.Error(fuel, left)
	}
}

func TestOverflow(t *testing.T) {
	v := info(t, "R", []api.Instr{in(api.Const, 1), in(api.Out), in(api.Null), in(api.Call, 1), in(api.Const, 7), in(api.Ret)}, api.Method{Params: "R", Code: []api.Instr{in(api.Load, 0), in(api.Call, 1), in(api.Ret)}})
	m := machine(t, v, nil, 9, Limits{Stack: 6 + 6 + 6 + 5})
	o := m.Run()
	if !reflect.DeepEqual(o, api.Outcome{Kind: api.Overflow, Method: 1, PC: 1, Out: []int64{1}}) {
		t.Error(o)
	}
	if fuel, _ := m.Left(); fuel != 6 || m.Frames().Len() != 3 || m.Points() != 3 {
		t.Error(fuel, m.Frames().Len(), m.Points())
	}
	if _, pc, _, stack, _ := m.Frames().At(2); pc != 1 || !slices.Equal(stack, []frames.Slot{{Ref: true}}) {
		t.Error(pc, stack)
	}
}

func TestMemory(t *testing.T) {
	v := info(t, "R", []api.Instr{in(api.New, 0), in(api.Dup), in(api.Load, 0), in(api.Put, 0, 1), in(api.Store, 0), in(api.Jump, 0)})
	m := machine(t, v, nil, 99, Limits{Heap: 28, Nursery: 4, Stack: 90})
	o := m.Run()
	if o.Kind != api.Memory || o.Method != 0 || o.PC != 0 || m.Points() != 2*5-1 {
		t.Error(o, m.Points())
	}
	if _, pc, locals, stack, _ := m.Frames().At(0); pc != 0 || len(stack) != 0 || len(locals) != 1 || !gc.Verify(m.Heap(), m.Frames().Roots()) {
		t.Error(pc, stack)
	}
	a := info(t, "", []api.Instr{in(api.Const, 9), in(api.Array, 0), in(api.Len), in(api.Ret)})
	m = machine(t, a, nil, 0, Limits{Heap: 20, Stack: 90})
	if o := m.Run(); o.Kind != api.Memory || o.PC != 1 {
		t.Error(o)
	}
	if _, _, _, stack, _ := m.Frames().At(0); !slices.Equal(stack, []frames.Slot{{N: 9}}) {
		t.Error(stack)
	}
}

func TestPoints(t *testing.T) {
	v := info(t, "R", []api.Instr{in(api.In), in(api.Zero, 0), in(api.New, 0), in(api.Pop), in(api.Call, 1), in(api.Const, 51), in(api.Array, 0), in(api.Len), in(api.Ret)}, api.Method{Code: []api.Instr{in(api.Jump, 1), in(api.Ret)}})
	for k, x := range []struct {
		fuel, points int
	}{{9, 5}, {3, 5}, {2, 4}, {1, 2}, {0, 1}} {
		m := machine(t, v, []int64{0, 0, 5}, x.fuel, Limits{Heap: 99, Nursery: 9, Stack: 99})
		if m.Run(); m.Points() != x.points {
			t.Error(k, m.Points())
		}
	}
}

func TestCollect(t *testing.T) {
	v := info(t, "R", []api.Instr{in(api.New, 0), in(api.Store, 0), in(api.New, 0), in(api.Pop), in(api.Const, 7), in(api.Ret)})
	m := machine(t, v, nil, 0, Limits{Heap: 36, Nursery: 20, Stack: 9})
	for range 3 {
		m.Step()
	}
	if !m.Collect(false) {
		t.Error("a minor one")
	}
	if y, o := m.Heap().Room(); y != 20 || o != 0 {
		t.Error(y, o)
	}
	m.Step()
	if !m.Collect(true) {
		t.Error("a major one")
	}
	if y, o := m.Heap().Room(); y != 20 || o != 4 {
		t.Error(y, o)
	}
	none := machine(t, info(t, "RR", []api.Instr{in(api.New, 0), in(api.Store, 0), in(api.New, 0), in(api.Store, 1), in(api.Jump, 4)}), nil, 0, Limits{Heap: 24, Nursery: 10, Stack: 9})
	none.Run()
	if none.Collect(false) || none.Collect(true) {
		t.Error("no room for any")
	}
}

func TestEnough(t *testing.T) {
	v := info(t, "", []api.Instr{in(api.Const, 7), in(api.Ret)})
	for _, x := range []struct {
		words, stack, nursery int
		want                  Limits
	}{
		{10, 20, 4, Limits{32, 4, 20}}, {-1, -1, -1, Limits{}}, {math.MaxInt, math.MaxInt, 7, Limits{api.MaxWords, 7, api.MaxWords}}, {0, 0, math.MaxInt, Limits{api.MaxWords, api.MaxWords, 0}},
	} {
		if got := Enough(v, nil, 0, x.words, x.stack, x.nursery); got != x.want {
			t.Error(x, got)
		}
	}
}

// told is what a heap or a model shows of its roots: numbered as they are met.
func told(objects []api.Object, refs func(class, i int) bool, roots []int64) ([]api.Object, []int) {
	number := map[int64]int{}
	var met []int64
	meet := func(r int64) int64 {
		if r < 0 {
			return -1
		}
		if _, is := number[r]; !is {
			number[r] = len(met)
			met = append(met, r)
		}
		return int64(number[r])
	}
	var at []int
	for _, r := range roots {
		at = append(at, int(meet(r)))
	}
	var out []api.Object
	for k := 0; k < len(met); k++ {
		o := api.Object{Class: objects[met[k]].Class, Vals: make([]int64, len(objects[met[k]].Vals))}
		for i, x := range objects[met[k]].Vals {
			if o.Vals[i] = x; refs(o.Class, i) {
				o.Vals[i] = meet(x)
			}
		}
		out = append(out, o)
	}
	return out, at
}

// alike asks that the frames and what they reach are the model's.
func alike(t *testing.T, m *Machine, k *model.Machine, p api.Program) {
	t.Helper()
	var roots []int64
	for i, f := range k.Frames() {
		method, pc, locals, stack, is := m.Frames().At(i)
		if !is || method != f.Method || pc != f.PC || len(locals) != len(f.Locals) || len(stack) != len(f.Stack) {
			t.Fatal("frame", i, method, pc, f)
		}
		for j, x := range append(f.Locals, f.Stack...) {
			if y := append(locals, stack...)[j]; x.Ref != y.Ref || !x.Ref && x.N != y.N {
				t.Fatal("slot", i, j, x, y)
			}
			if x.Ref {
				roots = append(roots, x.N)
			}
		}
	}
	want, wantAt := told(k.Objects(), func(class, i int) bool {
		return class == -2 || class >= 0 && p.Classes[class].Fields[i] == 'R'
	}, roots)
	got, gotAt := m.Heap().Shape(m.Frames().Roots())
	if !slices.Equal(wantAt, gotAt) || !slices.EqualFunc(want, got, func(a, b api.Object) bool { return a.Class == b.Class && slices.Equal(a.Vals, b.Vals) }) {
		t.Fatal("objects", want, got)
	}
}

// TestSteps runs the model beside the machine, and collects now and then.
func TestSteps(t *testing.T) {
	for seed := range uint64(150) {
		v := sample.Program(seed)
		input := sample.Inputs(seed)
		words, stack, _ := model.Peak(v, input, 30)
		d := sample.New(seed)
		m := machine(t, v, input, 30, Enough(v, input, 30, words, stack, d.Roll(40)))
		k, _ := model.New(v, input, 30)
		for step := 0; ; step++ {
			a, b := m.Step(), k.Step()
			if a != b {
				t.Fatal(seed, a, b)
			}
			if step%7 == 0 || !a {
				alike(t, m, k, v.Program())
			}
			switch d.Roll(30) {
			case 0:
				m.Collect(false)
			case 1:
				m.Collect(true)
			}
			if !a {
				break
			}
		}
		if a, b := m.Run(), k.Run(); !reflect.DeepEqual(a, b) {
			t.Error(seed, a, b)
		}
	}
}

// TestRuns asks for the model's outcome with room enough, and for a beginning of it with less.
func TestRuns(t *testing.T) {
	short := 0
	for seed := range uint64(500) {
		v := sample.Program(seed)
		input := sample.Inputs(seed)
		want, _ := model.Run(v, input, 120)
		words, stack, _ := model.Peak(v, input, 120)
		if heap.Least(v.Program(), words, 9) > api.MaxWords || stack > api.MaxWords {
			continue
		}
		if o := machine(t, v, input, 120, Enough(v, input, 120, words, stack, int(seed)%70)).Run(); !reflect.DeepEqual(o, want) {
			t.Error(seed, o, want)
		}
		o := machine(t, v, input, 120, Limits{Heap: words, Nursery: words / 5, Stack: stack * 3 / 4}).Run()
		if o.Kind == api.Memory || o.Kind == api.Overflow {
			short++
			if len(o.Out) > len(want.Out) || !slices.Equal(o.Out, want.Out[:len(o.Out)]) {
				t.Error(seed, o, want)
			}
		} else if !reflect.DeepEqual(o, want) {
			t.Error(seed, o, want)
		}
		if o := machine(t, v, input, 120, Limits{Heap: api.MaxWords, Stack: stack}).Run(); o.Kind == api.Overflow {
			t.Error(seed, "stack")
		}
	}
	if short < 50 {
		t.Error(short)
	}
}
