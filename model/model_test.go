package model

import (
	"math"
	"reflect"
	"slices"
	"strconv"
	"testing"

	"overdrive/api"
	"overdrive/sample"
	"overdrive/verify"
)

var in = sample.In

func info(t *testing.T, locals string, main []api.Instr, more ...api.Method) *verify.Info {
	t.Helper()
	p := api.Program{Classes: []api.Class{{Fields: "IR"}, {Fields: "R"}}, Methods: append([]api.Method{{Locals: locals, Ret: "I", Code: main}}, more...)}
	v, err := verify.Of(p)
	if err != nil {
		t.Fatal(err)
	}
	return v
}

func run(t *testing.T, v *verify.Info, fuel int, input ...int64) api.Outcome {
	t.Helper()
	o, err := Run(v, input, fuel)
	if err != nil {
		t.Fatal(err)
	}
	return o
}

func done(n int64, out ...int64) api.Outcome {
	return api.Outcome{Kind: api.Done, Value: n, Out: out}
}

func trap(k, pc int) api.Outcome {
	return api.Outcome{Kind: api.Trapped, Trap: k, PC: pc}
}

// TestInstructions runs rows of instructions, with Ret behind.
func TestInstructions(t *testing.T) {
	c, null, ret := api.Const, in(api.Null), in(api.Ret)
	obj, other, arr, refs := in(api.New, 0), in(api.New, 1), in(api.Array, 0), in(api.Array, 1)
	for i, x := range []struct {
		code []api.Instr
		want api.Outcome
	}{
		{[]api.Instr{in(c, 7), in(c, 3), in(api.Sub), ret}, done(4)},
		{[]api.Instr{in(c, 7), in(c, 3), in(api.Swap), in(api.Sub), ret}, done(-4)},
		{[]api.Instr{in(c, 7), in(api.Dup), in(api.Mul), in(api.Neg), ret}, done(-49)},
		{[]api.Instr{in(c, 7), in(c, 3), in(api.Pop), ret}, done(7)},
		{[]api.Instr{in(c, 1), in(c, 0), in(api.Div), ret}, trap(api.TDiv, 2)},
		{[]api.Instr{in(c, 1), in(c, 0), in(api.Rem), ret}, trap(api.TDiv, 2)},
		{[]api.Instr{null, null, in(api.Same), ret}, done(1)},
		{[]api.Instr{obj, null, in(api.Same), ret}, done(0)},
		{[]api.Instr{obj, obj, in(api.Same), ret}, done(0)},
		{[]api.Instr{obj, in(api.Dup), in(api.Same), ret}, done(1)},
		{[]api.Instr{obj, in(api.Get, 0, 0), ret}, done(0)},
		{[]api.Instr{obj, in(api.Get, 0, 1), null, in(api.Same), ret}, done(1)},
		{[]api.Instr{null, in(api.Get, 0, 0), ret}, trap(api.TNull, 1)},
		{[]api.Instr{other, in(api.Get, 0, 0), ret}, trap(api.TClass, 1)},
		{[]api.Instr{in(c, 1), arr, in(api.Get, 0, 0), ret}, trap(api.TClass, 2)},
		{[]api.Instr{obj, in(api.Dup), in(c, 9), in(api.Put, 0, 0), in(api.Get, 0, 0), ret}, done(9)},
		{[]api.Instr{null, in(c, 9), in(api.Put, 0, 0), in(c, 0), ret}, trap(api.TNull, 2)},
		{[]api.Instr{other, in(c, 9), in(api.Put, 0, 0), in(c, 0), ret}, trap(api.TClass, 2)},
		{[]api.Instr{obj, in(api.Is, 0), ret}, done(1)},
		{[]api.Instr{obj, in(api.Is, 1), ret}, done(0)},
		{[]api.Instr{null, in(api.Is, 0), ret}, done(0)},
		{[]api.Instr{in(c, 0), refs, in(api.Is, 0), ret}, done(0)},
		{[]api.Instr{in(c, -1), arr, in(api.Len), ret}, trap(api.TSize, 1)},
		{[]api.Instr{in(c, 51), arr, in(api.Len), ret}, trap(api.TSize, 1)},
		{[]api.Instr{in(c, 50), arr, in(api.Len), ret}, done(50)},
		{[]api.Instr{in(c, 0), refs, in(api.Len), ret}, done(0)},
		{[]api.Instr{null, in(api.Len), ret}, trap(api.TNull, 1)},
		{[]api.Instr{obj, in(api.Len), ret}, trap(api.TClass, 1)},
		{[]api.Instr{in(c, 2), arr, in(c, 1), in(api.Elem, 0), ret}, done(0)},
		{[]api.Instr{in(c, 2), arr, in(c, 2), in(api.Elem, 0), ret}, trap(api.TBounds, 3)},
		{[]api.Instr{in(c, 2), arr, in(c, -1), in(api.Elem, 0), ret}, trap(api.TBounds, 3)},
		{[]api.Instr{in(c, 2), refs, in(c, 9), in(api.Elem, 0), ret}, trap(api.TClass, 3)},
		{[]api.Instr{null, in(c, 9), in(api.Elem, 0), ret}, trap(api.TNull, 2)},
		{[]api.Instr{obj, in(c, 9), in(api.Elem, 0), ret}, trap(api.TClass, 2)},
		{[]api.Instr{in(c, 2), refs, in(c, 1), in(api.Elem, 1), null, in(api.Same), ret}, done(1)},
		{[]api.Instr{in(c, 2), arr, in(api.Dup), in(c, 1), in(c, 8), in(api.Set, 0), in(c, 1), in(api.Elem, 0), ret}, done(8)},
		{[]api.Instr{in(c, 2), arr, in(c, 2), in(c, 8), in(api.Set, 0), in(c, 0), ret}, trap(api.TBounds, 4)},
		{[]api.Instr{in(c, 2), arr, in(c, 0), null, in(api.Set, 1), in(c, 0), ret}, trap(api.TClass, 4)},
		{[]api.Instr{null, in(c, 0), null, in(api.Set, 1), in(c, 0), ret}, trap(api.TNull, 3)},
		{[]api.Instr{in(api.In), in(api.In), in(api.Sub), ret}, done(2)},
		{[]api.Instr{in(api.In), in(api.In), in(api.In), in(api.Add), in(api.Add), ret}, trap(api.TInput, 2)},
		{[]api.Instr{in(api.In), in(api.Out), in(c, 4), in(api.Out), in(c, 0), ret}, done(0, 5, 4)},
		{[]api.Instr{in(api.In), in(api.Store, 0), in(api.Load, 0), ret}, done(5)},
		{[]api.Instr{in(api.Load, 0), in(api.Load, 1), null, in(api.Same), in(api.Add), ret}, done(1)},
		{[]api.Instr{in(c, 0), in(api.Zero, 4), in(c, 1), ret, in(c, 2), ret}, done(2)},
		{[]api.Instr{in(c, -1), in(api.Zero, 4), in(c, 1), ret, in(c, 2), ret}, done(1)},
	} {
		if got := run(t, info(t, "IR", x.code), 0, 5, 3); !reflect.DeepEqual(got, x.want) {
			t.Error(i, got, x.want)
		}
	}
}

// count puts out local 0 round by round, from the input down to 0, by a jump back.
func count() []api.Instr {
	return []api.Instr{in(api.In), in(api.Store, 0), in(api.Load, 0), in(api.Zero, 10), in(api.Load, 0), in(api.Dup), in(api.Out), in(api.Const, -1), in(api.Add), in(api.Jump, 1), in(api.Const, 6), in(api.Ret)}
}

func TestFuel(t *testing.T) {
	v := info(t, "I", count())
	if got := run(t, v, 3, 3); !reflect.DeepEqual(got, done(6, 3, 2, 1)) {
		t.Error(got)
	}
	if got := run(t, v, 2, 3); !reflect.DeepEqual(got, api.Outcome{Kind: api.Fuel, PC: 9, Out: []int64{3, 2, 1}}) {
		t.Error(got)
	}
	// a Zero back takes fuel only where it goes back
	z := info(t, "", []api.Instr{in(api.In), in(api.Zero, 0), in(api.Const, 1), in(api.Ret)})
	if got := run(t, z, 0, 4); got.Kind != api.Done {
		t.Error(got)
	}
	m, _ := New(z, []int64{0, 0, 4}, 1)
	o := m.Run()
	if o.Kind != api.Fuel || o.PC != 1 || o.Method != 0 || !reflect.DeepEqual(m.Frames(), []Frame{{PC: 1, Stack: []Value{{}}}}) {
		t.Error(o, m.Frames())
	}
	if fuel, left := m.Left(); fuel != 0 || left != 1 {
		t.Error(fuel, left)
	}
	for fuel := range []int{0, api.MaxFuel} {
		if _, err := New(v, nil, fuel); err != nil {
			t.Error(err)
		}
	}
	for _, fuel := range []int{-1, api.MaxFuel + 1, math.MaxInt} {
		if m, err := New(v, nil, fuel); m != nil || err != api.ErrLimit {
			t.Error(fuel)
		}
		if o, err := Run(v, nil, fuel); !reflect.DeepEqual(o, api.Outcome{}) || err != api.ErrLimit {
			t.Error(fuel)
		}
		if a, b, err := Peak(v, nil, fuel); a != 0 || b != 0 || err != api.ErrLimit {
			t.Error(fuel)
		}
	}
}

func TestCalls(t *testing.T) {
	sub := api.Method{Params: "IR", Locals: "IR", Ret: "I", Code: []api.Instr{in(api.Load, 0), in(api.Load, 1), in(api.Get, 0, 0), in(api.Sub), in(api.Load, 2), in(api.Add), in(api.Load, 3), in(api.Is, 0), in(api.Add), in(api.Ret)}}
	none := api.Method{Params: "R", Code: []api.Instr{in(api.Load, 0), in(api.Const, 8), in(api.Put, 0, 0), in(api.Ret)}}
	v := info(t, "R", []api.Instr{in(api.New, 0), in(api.Store, 0), in(api.Load, 0), in(api.Call, 2), in(api.Const, 30), in(api.Load, 0), in(api.Call, 1), in(api.Ret)}, sub, none)
	if got := run(t, v, 2); !reflect.DeepEqual(got, done(22)) {
		t.Error(got)
	}
	if got := run(t, v, 1); !reflect.DeepEqual(got, api.Outcome{Kind: api.Fuel, PC: 6}) {
		t.Error(got)
	}
	bad := info(t, "", []api.Instr{in(api.Const, 30), in(api.Null), in(api.Call, 1), in(api.Ret)}, sub)
	if got := run(t, bad, 9); !reflect.DeepEqual(got, api.Outcome{Kind: api.Trapped, Trap: api.TNull, Method: 1, PC: 2}) {
		t.Error(got)
	}
	m, _ := New(bad, nil, 9)
	m.Run()
	want := []Frame{{PC: 3}, {Method: 1, PC: 2, Locals: []Value{{N: 30}, {Ref: true, N: -1}, {}, {Ref: true, N: -1}}, Stack: []Value{{N: 30}, {Ref: true, N: -1}}}}
	if got := m.Frames(); !sameFrames(got, want) {
		t.Error(got)
	}
}

func sameFrames(a, b []Frame) bool {
	return slices.EqualFunc(a, b, func(x, y Frame) bool {
		return x.Method == y.Method && x.PC == y.PC && slices.Equal(x.Locals, y.Locals) && slices.Equal(x.Stack, y.Stack)
	})
}

func TestItself(t *testing.T) {
	v := info(t, "", []api.Instr{in(api.Call, 1), in(api.Const, 0), in(api.Ret)}, api.Method{Code: []api.Instr{in(api.Call, 1), in(api.Ret)}})
	for _, fuel := range []int{3, api.MaxFuel} {
		m, _ := New(v, nil, fuel)
		o := m.Run()
		if o.Kind != api.Fuel || o.Method != 1 || o.PC != 0 || len(m.Frames()) != fuel+1 {
			t.Error(o, len(m.Frames()))
		}
		if _, stack, err := Peak(v, nil, fuel); stack != 5+4*fuel || err != nil {
			t.Error(stack)
		}
	}
}

func TestSteps(t *testing.T) {
	v := info(t, "R", []api.Instr{in(api.New, 0), in(api.Dup), in(api.Dup), in(api.Put, 0, 1), in(api.Store, 0), in(api.Const, 1), in(api.Ret)})
	m, _ := New(v, []int64{4}, 9)
	if got := m.Frames(); !sameFrames(got, []Frame{{Locals: []Value{{Ref: true, N: -1}}}}) || m.Objects() != nil {
		t.Error(got)
	}
	for k := range 6 {
		if !m.Step() {
			t.Error(k)
		}
	}
	if got := m.Frames(); !sameFrames(got, []Frame{{PC: 6, Locals: []Value{{Ref: true}}, Stack: []Value{{N: 1}}}}) {
		t.Error(got)
	}
	if got := m.Objects(); !reflect.DeepEqual(got, []api.Object{{Class: 0, Vals: []int64{0, 0}}}) {
		t.Error(got)
	}
	m.Objects()[0].Vals[0] = 9
	m.Frames()[0].Locals[0].N = 9
	m.Frames()[0].Stack[0].N = 9
	if m.Step() || m.Step() || len(m.Frames()) != 0 || !reflect.DeepEqual(m.Run(), done(1)) || m.Objects()[0].Vals[0] != 0 {
		t.Error("end")
	}
	if fuel, left := m.Left(); fuel != 9 || left != 1 {
		t.Error(fuel, left)
	}
}

func TestMemory(t *testing.T) {
	v := info(t, "", []api.Instr{in(api.In), in(api.Out), in(api.Const, 1), in(api.Ret)})
	input := []int64{5}
	m, _ := New(v, input, 0)
	input[0] = 6
	o := m.Run()
	if o.Out[0] != 5 {
		t.Error("what was handed in is kept")
	}
	o.Out[0] = 7
	if m.Run().Out[0] != 5 {
		t.Error("memory is shared")
	}
}

func TestPeak(t *testing.T) {
	for i, x := range []struct {
		code        []api.Instr
		heap, stack int
	}{
		{[]api.Instr{in(api.Const, 1), in(api.Ret)}, 0, 6},
		{[]api.Instr{in(api.New, 0), in(api.Pop), in(api.New, 0), in(api.Pop), in(api.Const, 1), in(api.Ret)}, 4, 6},
		{[]api.Instr{in(api.New, 0), in(api.New, 0), in(api.Pop), in(api.Pop), in(api.Const, 1), in(api.Ret)}, 8, 7},
		{[]api.Instr{in(api.New, 0), in(api.Store, 0), in(api.New, 1), in(api.Pop), in(api.Const, 7), in(api.Array, 0), in(api.Pop), in(api.Const, 1), in(api.Ret)}, 13, 6},
		{[]api.Instr{in(api.New, 0), in(api.Dup), in(api.New, 1), in(api.Put, 0, 1), in(api.Const, 0), in(api.Array, 1), in(api.Pop), in(api.Pop), in(api.Const, 51), in(api.Array, 0), in(api.Len), in(api.Ret)}, 9, 8},
	} {
		heap, stack, err := Peak(info(t, "R", x.code), nil, 0)
		if heap != x.heap || stack != x.stack || err != nil {
			t.Error(i, heap, stack, err)
		}
	}
	// the deepest frames count, not the last ones
	v := info(t, "", []api.Instr{in(api.Call, 1), in(api.Call, 2), in(api.Const, 1), in(api.Ret)},
		api.Method{Locals: "IIIII", Code: []api.Instr{in(api.Call, 2), in(api.Ret)}}, api.Method{Code: []api.Instr{in(api.Ret)}})
	if _, stack, _ := Peak(v, nil, 9); stack != 5+9+4 {
		t.Error(stack)
	}
}

// TestMoreFuel asks that more fuel never changes what was done with less.
func TestMoreFuel(t *testing.T) {
	v := info(t, "I", count())
	full := run(t, v, 50, 9)
	for fuel := range 12 {
		o := run(t, v, fuel, 9)
		if o.Kind != api.Fuel && !reflect.DeepEqual(o, full) || !slices.Equal(o.Out, full.Out[:len(o.Out)]) {
			t.Error(strconv.Itoa(fuel), o)
		}
	}
}
