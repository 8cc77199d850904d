package eval

import (
	"math"
	"reflect"
	"testing"

	"overdrive/api"
	"overdrive/model"
	"overdrive/sample"
	"overdrive/verify"
)

var in = sample.In

func info(t *testing.T, locals string, main []api.Instr, more ...api.Method) *verify.Info {
	t.Helper()
	v, err := verify.Of(api.Program{Classes: []api.Class{{Fields: "IR"}}, Methods: append([]api.Method{{Locals: locals, Ret: "I", Code: main}}, more...)})
	if err != nil {
		t.Fatal(err)
	}
	return v
}

func node(op int, kind string, state int, args ...int) api.Node {
	return api.Node{Op: op, Kind: kind, State: state, Args: args}
}

func number(n int64) api.Node { return api.Node{Op: api.Const, Kind: "I", State: -1, N: n} }

func one(nodes ...api.Node) api.Function {
	f := api.Function{Nodes: nodes, Blocks: []api.Block{{}}}
	for n := range nodes {
		f.Blocks[0].Body = append(f.Blocks[0].Body, n)
	}
	return f
}

func want(t *testing.T, what string, v *verify.Info, fs []api.Function, input []int64, fuel int, down []int, o api.Outcome, tally Tally) {
	t.Helper()
	got, n, err := Run(v, fs, input, fuel, down)
	if err != nil || !reflect.DeepEqual(got, o) || n != tally {
		t.Error(what, got, n, err)
	}
}

func done(n int64, out ...int64) api.Outcome {
	return api.Outcome{Kind: api.Done, Value: n, Out: out}
}

func TestErrors(t *testing.T) {
	v := info(t, "", []api.Instr{in(api.Const, 1), in(api.Ret)}, api.Method{Code: []api.Instr{in(api.Ret)}})
	f := one(number(1), node(api.Return, "", -1, 0))
	bad := one(number(1))
	entered, other := f, f
	entered.Entry = 1
	other.Method = 7
	for i, x := range []struct {
		fs   []api.Function
		fuel int
		want error
	}{
		{[]api.Function{f, f, f}, -1, api.ErrLimit}, {nil, api.MaxFuel + 1, api.ErrLimit},
		{[]api.Function{bad, other, f}, 0, api.ErrMany}, {[]api.Function{f, f}, 0, api.ErrMany}, {[]api.Function{other, other}, 0, api.ErrMany}, {[]api.Function{bad, entered}, 0, api.ErrMany},
		{[]api.Function{bad}, 0, api.ErrNode}, {[]api.Function{f, other}, 0, api.ErrNode}, {[]api.Function{{Method: 1}, bad}, 0, api.ErrMany},
	} {
		o, n, err := Run(v, x.fs, nil, x.fuel, nil)
		if err != x.want || !reflect.DeepEqual(o, api.Outcome{}) || n != (Tally{}) {
			t.Error(i, err)
		}
	}
	want(t, "no functions", v, nil, nil, 0, []int{0, -1}, done(1), Tally{})
	want(t, "the example", v, []api.Function{f}, nil, 0, nil, done(1), Tally{Nodes: 2})
}

// loop puts out what is read until that is 0, and then answers how often; its method does so, too.
func loop(t *testing.T) (*verify.Info, api.Function) {
	t.Helper()
	v := info(t, "I", []api.Instr{in(api.In), in(api.Dup), in(api.Out), in(api.Load, 0), in(api.Const, 1), in(api.Add), in(api.Store, 0), in(api.Zero, 9), in(api.Jump, 0), in(api.Load, 0), in(api.Ret)})
	add := node(api.Add, "I", -1, 3, 1)
	return v, api.Function{
		Nodes: []api.Node{
			number(0), number(1), node(api.Goto, "", -1),
			node(api.Phi, "I", -1, 0, 6), node(api.In, "I", 0), node(api.Out, "", -1, 4), add, node(api.Branch, "", -1, 4),
			node(api.Poll, "", 1), node(api.Goto, "", -1),
			node(api.Return, "", -1, 6),
		},
		Blocks: []api.Block{
			{Body: []int{0, 1, 2}, Succ: []int{1}},
			{Phis: []int{3}, Body: []int{4, 5, 6, 7}, Succ: []int{2, 3}, Preds: []int{0, 2}},
			{Body: []int{8, 9}, Succ: []int{1}, Preds: []int{1}},
			{Body: []int{10}, Preds: []int{1}},
		},
		States: []api.State{{Up: -1, Locals: []int{3}}, {Up: -1, PC: 8, Locals: []int{6}}},
	}
}

func TestLoop(t *testing.T) {
	v, f := loop(t)
	fs := []api.Function{f}
	want(t, "to the end", v, fs, []int64{5, 4, 0}, 2, nil, done(3, 5, 4, 0), Tally{Points: 2, Nodes: 3 + 3*5 + 2*2 + 1})
	want(t, "fuel", v, fs, []int64{5, 4, 0}, 1, nil, api.Outcome{Kind: api.Fuel, PC: 8, Out: []int64{5, 4}}, Tally{Points: 2, Nodes: 3 + 2*5 + 2 + 1})
	want(t, "trap", v, fs, []int64{5}, 1, nil, api.Outcome{Kind: api.Trapped, Trap: api.TInput, Out: []int64{5}}, Tally{Points: 1, Nodes: 3 + 5 + 2 + 2})
	for k, tally := range []Tally{{1, 1, 9}, {2, 1, 16}, {2, 0, 23}} {
		want(t, "down", v, fs, []int64{5, 4, 0}, 2, []int{7, k, k}, done(3, 5, 4, 0), tally)
	}
}

// TestPhisAtOnce swaps two values round a loop.
func TestPhisAtOnce(t *testing.T) {
	v := info(t, "II", []api.Instr{in(api.In), in(api.Zero, 5), in(api.Load, 0), in(api.Load, 1), in(api.Jump, 8), in(api.Load, 1), in(api.Ret), in(api.Pop), in(api.Store, 0), in(api.Store, 1), in(api.Jump, 0)})
	f := api.Function{
		Nodes: []api.Node{
			number(1), number(2), node(api.Goto, "", -1),
			node(api.Phi, "I", -1, 0, 4), node(api.Phi, "I", -1, 1, 3), node(api.In, "I", 0), node(api.Branch, "", -1, 5),
			node(api.Goto, "", -1), node(api.Return, "", -1, 3),
		},
		Blocks: []api.Block{{Body: []int{0, 1, 2}, Succ: []int{1}}, {Phis: []int{3, 4}, Body: []int{5, 6}, Succ: []int{2, 3}, Preds: []int{0, 2}}, {Body: []int{7}, Succ: []int{1}, Preds: []int{1}}, {Body: []int{8}, Preds: []int{1}}},
		States: []api.State{{Up: -1, Locals: []int{3, 4}}},
	}
	for k, n := range []int64{1, 2, 1, 2} {
		input := append(make([]int64, 0), []int64{7, 7, 7}[:k]...)
		if got, _, err := Run(v, []api.Function{f}, append(input, 0), 0, nil); err != nil || got.Value != n {
			t.Error(k, got, err)
		}
	}
}

// calls has a method that is called, and one that it calls.
func calls(t *testing.T) (*verify.Info, api.Function, api.Function) {
	t.Helper()
	v := info(t, "", []api.Instr{in(api.In), in(api.Const, 3), in(api.Call, 1), in(api.Ret)},
		api.Method{Params: "II", Ret: "I", Code: []api.Instr{in(api.Load, 0), in(api.Load, 1), in(api.Div), in(api.Call, 2), in(api.Load, 0), in(api.Add), in(api.Ret)}},
		api.Method{Params: "I", Ret: "I", Code: []api.Instr{in(api.Load, 0), in(api.Out), in(api.Const, 40), in(api.Ret)}})
	call := node(api.Call, "I", 1, 0, 1)
	call.A = 1
	main := one(node(api.In, "I", 0), number(3), call, node(api.Return, "", -1, 2))
	main.States = []api.State{{Up: -1}, {Up: -1, PC: 2, Stack: []int{0, 1}}}
	deep := node(api.Call, "I", 1, 2)
	deep.A = 2
	second := node(api.Param, "I", -1)
	second.A = 1
	sub := one(node(api.Param, "I", -1), second, node(api.Div, "I", 0, 0, 1), deep, node(api.Add, "I", -1, 3, 0), node(api.Return, "", -1, 4))
	sub.Method = 1
	sub.States = []api.State{{Method: 1, Up: -1, PC: 2, Locals: []int{0, -1}, Stack: []int{0, 1}}, {Method: 1, Up: -1, PC: 3, Locals: []int{0, -1}, Stack: []int{2}}}
	return v, main, sub
}

func TestCalls(t *testing.T) {
	v, main, sub := calls(t)
	input := []int64{7}
	for i, fs := range [][]api.Function{nil, {main}, {sub}, {main, sub}, {sub, main}} {
		for fuel := range 4 {
			o, _ := model.Run(v, input, fuel)
			for _, down := range [][]int{nil, {0}, {1}, {0, 1}, {2}} {
				got, _, err := Run(v, fs, input, fuel, down)
				if err != nil || !reflect.DeepEqual(got, o) {
					t.Error(i, fuel, down, got, o, err)
				}
			}
		}
	}
	want(t, "both", v, []api.Function{sub, main}, input, 2, nil, done(47, 2), Tally{Points: 2, Nodes: 10})
	want(t, "the first given up", v, []api.Function{sub, main}, input, 2, []int{0}, done(47, 2), Tally{Points: 2, Downs: 1, Nodes: 9})
	sub.Nodes[1].A, sub.Nodes[0].A = 0, 1
	if got, _, _ := Run(v, []api.Function{sub}, []int64{0}, 2, nil); !reflect.DeepEqual(got, api.Outcome{Kind: api.Trapped, Trap: api.TDiv, Method: 1, PC: 2}) {
		t.Error(got)
	}
}

// TestGuard goes on, or is given up with an object that is not there, in a call that is laid in.
func TestGuard(t *testing.T) {
	w := info(t, "R", []api.Instr{in(api.New, 0), in(api.Store, 0), in(api.Load, 0), in(api.In), in(api.Call, 1), in(api.Load, 0), in(api.Get, 0, 0), in(api.Add), in(api.Ret)},
		api.Method{Params: "RI", Ret: "I", Code: []api.Instr{in(api.Load, 0), in(api.Load, 1), in(api.Put, 0, 0), in(api.Load, 1), in(api.Zero, 7), in(api.Const, 5), in(api.Ret), in(api.Load, 0), in(api.Get, 0, 1), in(api.Get, 0, 0), in(api.Ret)}})
	guard := node(api.Guard, "", 3, 0)
	guard.N = 1
	f := one(node(api.In, "I", 0), node(api.Enter, "", 1), guard, number(5), node(api.Add, "I", -1, 3, 0), node(api.Return, "", -1, 4))
	f.Nodes = append(f.Nodes, number(0), node(api.Null, "R", -1))
	f.Blocks[0].Body = []int{6, 7, 0, 1, 2, 3, 4, 5}
	object := func(n int) []api.Virtual { return []api.Virtual{{Fields: []int{n, -2}}} }
	f.States = []api.State{
		{Up: -1, PC: 3, Locals: []int{-2}, Stack: []int{-2}, Virtuals: []api.Virtual{{Fields: []int{6, 7}}}},
		{Up: -1, PC: 4, Locals: []int{-2}, Stack: []int{-2, 0}, Virtuals: []api.Virtual{{Fields: []int{6, 7}}}},
		{Up: -1, PC: 4, Locals: []int{-2}},
		{Method: 1, Up: 2, PC: 4, Locals: []int{-2, -1}, Stack: []int{0}, Virtuals: object(0)},
	}
	want(t, "goes on", w, []api.Function{f}, []int64{4}, 1, nil, done(9), Tally{Points: 1, Nodes: 8})
	// the object's own field is itself here, as the state says: so its first field comes back
	want(t, "given up", w, []api.Function{f}, []int64{0}, 1, nil, done(0), Tally{Points: 1, Downs: 1, Nodes: 5})
	want(t, "given up at the call", w, []api.Function{f}, []int64{4}, 1, []int{0}, done(9), Tally{Points: 1, Downs: 1, Nodes: 4})
	f.Nodes[2].N = 0
	want(t, "the other way", w, []api.Function{f}, []int64{4}, 1, nil, done(9), Tally{Points: 1, Downs: 1, Nodes: 5})
	want(t, "and on", w, []api.Function{f}, []int64{0}, 1, nil, done(5), Tally{Points: 1, Nodes: 8})
}

func TestOverflow(t *testing.T) {
	v := info(t, "", []api.Instr{in(api.Call, 1), in(api.Const, 1), in(api.Ret)}, api.Method{Code: []api.Instr{in(api.Call, 1), in(api.Ret)}})
	for fuel, kind := range map[int]int{190: api.Fuel, 198: api.Fuel, 400: api.Overflow, api.MaxFuel: api.Overflow} {
		o, _, err := Run(v, nil, nil, fuel, nil)
		if err != nil || o.Kind != kind || kind == api.Overflow && (o.Method != 0 || o.PC != 0) {
			t.Error(fuel, o, err)
		}
	}
	endless := api.Function{Nodes: []api.Node{number(1), node(api.Out, "", -1, 0), node(api.Goto, "", -1), node(api.Goto, "", -1)}, Blocks: []api.Block{{Body: []int{0, 1, 2}, Succ: []int{1}}, {Body: []int{3}, Succ: []int{1}, Preds: []int{0, 1}}}}
	o, n, err := Run(v, []api.Function{endless}, nil, 0, nil)
	if err != nil || !reflect.DeepEqual(o, api.Outcome{Kind: api.Overflow, Out: []int64{1}}) || n.Nodes < 1<<22 || n.Nodes > 1<<22+9 {
		t.Error(o, n, err)
	}
	if _, _, err := Run(v, []api.Function{endless}, nil, math.MaxInt, nil); err != api.ErrLimit {
		t.Error(err)
	}
}
