package machine

import (
	"reflect"
	"slices"
	"testing"

	"overdrive/api"
	"overdrive/emit"
	"overdrive/heap"
	"overdrive/interp"
	"overdrive/model"
	"overdrive/sample"
	"overdrive/script"
	"overdrive/verify"
)

var in = sample.In

func info(t *testing.T, locals string, main []api.Instr, more ...api.Method) *verify.Info {
	t.Helper()
	v, err := verify.Of(api.Program{Classes: []api.Class{{Fields: "IR"}}, Methods: append([]api.Method{{Locals: locals, Ret: "I", Code: main}}, more...)})
	if err != nil {
		t.Fatal(err)
	}
	return v
}

func compiled(t *testing.T, v *verify.Info, method, entry int, o script.Options) *emit.Code {
	t.Helper()
	c, err := emit.Compile(v, method, entry, o)
	if err != nil {
		t.Fatal(err)
	}
	return c
}

var roomy = interp.Limits{Heap: 4000, Nursery: 100, Stack: 4000}

func TestExample(t *testing.T) {
	v := info(t, "", []api.Instr{in(api.Const, 1), in(api.Ret)})
	c := compiled(t, v, 0, 0, script.Options{Regs: 1})
	o, n, err := Run(v, []*emit.Code{c}, nil, 0, roomy, nil)
	if err != nil || !reflect.DeepEqual(o, api.Outcome{Kind: api.Done, Value: 1}) || n != (Tally{Compiled: 1}) {
		t.Error(o, n, err)
	}
	o, n, err = Run(v, nil, nil, 0, roomy, nil)
	if err != nil || !reflect.DeepEqual(o, api.Outcome{Kind: api.Done, Value: 1}) || n != (Tally{Asked: 2}) {
		t.Error(o, n, err)
	}
}

func TestErrors(t *testing.T) {
	v := info(t, "", []api.Instr{in(api.Const, 1), in(api.Zero, 2), in(api.Const, 1), in(api.Ret)}, api.Method{Code: []api.Instr{in(api.Ret)}})
	c := compiled(t, v, 0, 0, script.Options{Regs: 1})
	d := compiled(t, v, 1, 0, script.Options{Regs: 1})
	entered := compiled(t, v, 0, 2, script.Options{Regs: 1})
	for i, x := range []struct {
		cs   []*emit.Code
		fuel int
		l    interp.Limits
		want error
	}{
		{[]*emit.Code{nil}, -1, interp.Limits{Heap: -1}, api.ErrLimit}, {nil, api.MaxFuel + 1, roomy, api.ErrLimit},
		{[]*emit.Code{c, d, d}, 0, interp.Limits{Heap: -1}, api.ErrMany}, {[]*emit.Code{c, nil}, 0, roomy, api.ErrMany}, {[]*emit.Code{c, c}, 0, roomy, api.ErrMany}, {[]*emit.Code{entered}, 0, roomy, api.ErrMany},
		{[]*emit.Code{c}, 0, interp.Limits{Heap: -1}, api.ErrLimit}, {[]*emit.Code{c}, 0, interp.Limits{Heap: 3, Nursery: 4}, api.ErrLimit}, {nil, 0, interp.Limits{Stack: -1}, api.ErrLimit},
	} {
		o, n, err := Run(v, x.cs, nil, x.fuel, x.l, []int{0})
		if err != x.want || !reflect.DeepEqual(o, api.Outcome{}) || n != (Tally{}) {
			t.Error(i, err)
		}
	}
	if o, n, err := Run(v, []*emit.Code{d, c}, nil, 0, interp.Limits{Stack: 4}, nil); err != nil || o.Kind != api.Overflow || o.Method != 0 || o.PC != 0 || n != (Tally{}) {
		t.Error(o, n, err)
	}
}

// TestOverflow counts the words of a code's frame as its method's.
func TestOverflow(t *testing.T) {
	v := info(t, "R", []api.Instr{in(api.Const, 1), in(api.Out), in(api.Null), in(api.Call, 1), in(api.Const, 7), in(api.Ret)}, api.Method{Params: "R", Code: []api.Instr{in(api.Load, 0), in(api.Call, 1), in(api.Ret)}})
	cs := []*emit.Code{compiled(t, v, 0, 0, script.Options{Regs: 2}), compiled(t, v, 1, 0, script.Options{Regs: 1})}
	for _, cs := range [][]*emit.Code{nil, cs[:1], cs[1:], cs} {
		o, n, err := Run(v, cs, nil, 9, interp.Limits{Stack: 6 + 6 + 6 + 5}, nil)
		if err != nil || !reflect.DeepEqual(o, api.Outcome{Kind: api.Overflow, Method: 1, PC: 1, Out: []int64{1}}) || n.Points != 3 {
			t.Error(o, n, err)
		}
		o, _, _ = Run(v, cs, nil, 2, interp.Limits{Stack: 6 + 6 + 6}, nil)
		if !reflect.DeepEqual(o, api.Outcome{Kind: api.Fuel, Method: 1, PC: 1, Out: []int64{1}}) {
			t.Error(o)
		}
	}
}

func TestMemory(t *testing.T) {
	v := info(t, "R", []api.Instr{in(api.New, 0), in(api.Dup), in(api.Load, 0), in(api.Put, 0, 1), in(api.Store, 0), in(api.Jump, 0)})
	c := compiled(t, v, 0, 0, script.Options{Regs: 2})
	o, n, err := Run(v, []*emit.Code{c}, nil, 99, interp.Limits{Heap: 28, Nursery: 4, Stack: 90}, []int{3, 3, 4, 77, -1})
	if err != nil || o.Kind != api.Memory || o.Method != 0 || o.PC != 0 || n.Collected != 2 || n.Compiled != 1 {
		t.Error(o, n, err)
	}
}

// TestGuard gives up a function in which many frames and objects are not there.
func TestGuard(t *testing.T) {
	main := []api.Instr{in(api.New, 0), in(api.Store, 0), in(api.Load, 0), in(api.In), in(api.Put, 0, 0), in(api.Load, 0), in(api.Call, 1), in(api.Load, 0), in(api.Get, 0, 0), in(api.Add), in(api.Ret)}
	v := info(t, "R", main, api.Method{Params: "R", Ret: "I", Code: []api.Instr{in(api.Load, 0), in(api.Get, 0, 0), in(api.Zero, 5), in(api.Const, 3), in(api.Ret), in(api.Load, 0), in(api.Const, 20), in(api.Put, 0, 0), in(api.Const, 10), in(api.Ret)}})
	c := compiled(t, v, 0, 0, script.Options{Inline: true, Escape: true, Guess: true, Regs: 3})
	for input, value := range map[int64]int64{0: 30, 4: 7} {
		want, _ := model.Run(v, []int64{input}, 9)
		o, _, err := Run(v, []*emit.Code{c}, []int64{input}, 9, roomy, nil)
		if err != nil || !reflect.DeepEqual(o, want) || o.Value != value {
			t.Error(input, o, want, err)
		}
	}
}

func options(d *sample.Dice) script.Options { return script.Unpack(d.Roll(512)) }

// TestMeaning asks for the model's outcome with room enough, whatever has code, and wherever is collected.
func TestMeaning(t *testing.T) {
	short := 0
	for seed := range uint64(600) {
		v := sample.Program(seed)
		d := sample.New(seed)
		input := sample.Inputs(seed)
		want, _ := model.Run(v, input, 100)
		words, stack, _ := model.Peak(v, input, 100)
		if heap.Least(v.Program(), words, 60) > api.MaxWords || stack > api.MaxWords {
			continue
		}
		for range 3 {
			var cs []*emit.Code
			for m := range v.Program().Methods {
				if d.Roll(4) > 0 {
					cs = append(cs, compiled(t, v, m, 0, options(d)))
				}
			}
			var collect []int
			for k := range 200 {
				if d.Roll(6) == 0 {
					collect = append(collect, k)
				}
			}
			l := interp.Enough(v, input, 100, words, stack, d.Roll(60))
			o, n, err := Run(v, cs, input, 100, l, collect)
			if err != nil || !reflect.DeepEqual(o, want) {
				t.Fatal(seed, o, want, err)
			}
			if n.Asked < n.Points || n.Collected > len(collect) {
				t.Fatal(n)
			}
			l = interp.Limits{Heap: words, Nursery: words / 4, Stack: stack * 3 / 4}
			o, _, err = Run(v, cs, input, 100, l, collect)
			if err != nil {
				t.Fatal(err)
			}
			if o.Kind == api.Memory || o.Kind == api.Overflow {
				short++
				if len(o.Out) > len(want.Out) || !slices.Equal(o.Out, want.Out[:len(o.Out)]) {
					t.Fatal(seed, o, want)
				}
			} else if !reflect.DeepEqual(o, want) {
				t.Fatal(seed, o, want)
			}
		}
	}
	if short < 100 {
		t.Error(short)
	}
}

// TestAsInterp asks that without code it is the first gear, to the last count.
func TestAsInterp(t *testing.T) {
	for seed := range uint64(100) {
		v := sample.Program(seed)
		input := sample.Inputs(seed)
		m, err := interp.New(v, input, 50, roomy)
		if err != nil {
			t.Fatal(err)
		}
		want := m.Run()
		o, n, err := Run(v, nil, input, 50, roomy, nil)
		if err != nil || !reflect.DeepEqual(o, want) || n.Points != m.Points() || n.Compiled != 0 || n.Collected != 0 {
			t.Error(seed, o, want, n, err)
		}
	}
}
