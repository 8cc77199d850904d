package inline

import (
	"math"
	"reflect"
	"slices"
	"testing"

	"overdrive/api"
	"overdrive/build"
	"overdrive/eval"
	"overdrive/model"
	"overdrive/sample"
	"overdrive/ssa"
	"overdrive/verify"
)

var in = sample.In

func info(t *testing.T, locals string, main []api.Instr, more ...api.Method) *verify.Info {
	t.Helper()
	v, err := verify.Of(api.Program{Classes: []api.Class{{Fields: "IR"}}, Methods: append([]api.Method{{Locals: locals, Ret: "I", Code: main}}, more...)})
	if err != nil {
		t.Fatal(err)
	}
	return v
}

func built(t *testing.T, v *verify.Info, m int) api.Function {
	t.Helper()
	f, err := build.Build(v, m, 0)
	if err != nil {
		t.Fatal(err)
	}
	return f
}

func pass(t *testing.T, v *verify.Info, f api.Function, most int) api.Function {
	t.Helper()
	text := ssa.Text(f)
	g, err := Pass(v, f, most)
	if err != nil {
		t.Fatal(err)
	}
	if err := ssa.Check(v, g); err != nil {
		t.Fatal(err, text, ssa.Text(g))
	}
	if ssa.Text(f) != text {
		t.Fatal("what was handed in was changed")
	}
	if ssa.Size(f) > most && !ssa.Same(f, g) || ssa.Size(g) > max(ssa.Size(f), min(most, 2000)) {
		t.Fatal("too large", most, ssa.Size(f), ssa.Size(g))
	}
	return g
}

func ops(f api.Function) []int {
	var l []int
	for _, b := range f.Blocks {
		for _, n := range append(slices.Clone(b.Phis), b.Body...) {
			l = append(l, f.Nodes[n].Op)
		}
	}
	return l
}

func TestExample(t *testing.T) {
	v := info(t, "", []api.Instr{in(api.Call, 1), in(api.Ret)}, api.Method{Ret: "I", Code: []api.Instr{in(api.Const, 1), in(api.Ret)}})
	f := pass(t, v, built(t, v, 0), 400)
	if got := ops(f); !slices.Equal(got, []int{api.Enter, api.Const, api.Return}) || Calls(f) != 0 {
		t.Error(ssa.Text(f))
	}
	// just as many nodes as may be, and one less
	if f := pass(t, v, built(t, v, 0), 3); Calls(f) != 0 {
		t.Error(ssa.Text(f))
	}
	for _, most := range []int{2, 1, 0, -1, math.MinInt} {
		if f := pass(t, v, built(t, v, 0), most); Calls(f) != 1 {
			t.Error(most, ssa.Text(f))
		}
	}
	if f := pass(t, v, built(t, v, 0), math.MaxInt); Calls(f) != 0 {
		t.Error(ssa.Text(f))
	}
}

// TestStates looks at the states of what is laid in: they lie upon the call's, without its arguments.
func TestStates(t *testing.T) {
	v := info(t, "II", []api.Instr{in(api.In), in(api.Store, 0), in(api.Const, 8), in(api.Load, 0), in(api.Const, 9), in(api.Call, 1), in(api.Load, 0), in(api.Add), in(api.Add), in(api.Ret)},
		api.Method{Params: "II", Ret: "I", Code: []api.Instr{in(api.Load, 0), in(api.Load, 1), in(api.Div), in(api.Ret)}})
	f := pass(t, v, built(t, v, 0), 400)
	if got := ops(f); !slices.Equal(got, []int{api.In, api.Const, api.Const, api.Enter, api.Div, api.Add, api.Add, api.Return}) {
		t.Fatal(ssa.Text(f))
	}
	at := func(k int) api.State { return f.States[f.Nodes[f.Blocks[0].Body[k]].State] }
	body := f.Blocks[0].Body
	if s := at(3); s.PC != 5 || !slices.Equal(s.Stack, []int{body[1], body[0], body[2]}) || s.Up != -1 {
		t.Error(s)
	}
	s := at(4)
	if s.Method != 1 || s.PC != 2 || !slices.Equal(s.Stack, []int{body[0], body[2]}) || !slices.Equal(s.Locals, []int{-1, -1}) || s.Up < 0 {
		t.Fatal(s)
	}
	if s := f.States[s.Up]; s.Method != 0 || s.PC != 5 || !slices.Equal(s.Stack, []int{body[1]}) || !slices.Equal(s.Locals, []int{body[0], -1}) {
		t.Error(s)
	}
}

func TestWhichAreLaidIn(t *testing.T) {
	deep := api.Method{Ret: "I", Code: []api.Instr{in(api.Call, 2), in(api.Ret)}}
	back := api.Method{Ret: "I", Code: []api.Instr{in(api.Call, 1), in(api.Ret)}}
	v := info(t, "", []api.Instr{in(api.Call, 1), in(api.Call, 1), in(api.Add), in(api.Ret)}, deep, back)
	f := pass(t, v, built(t, v, 0), 400)
	if got := ops(f); !slices.Equal(got, []int{api.Enter, api.Call, api.Enter, api.Call, api.Add, api.Return}) {
		t.Error("calls that are laid in with it stay", ssa.Text(f))
	}
	f = pass(t, v, f, 400)
	if Calls(f) != 2 {
		t.Error(ssa.Text(f))
	}
	if f = pass(t, v, f, 400); Calls(f) != 2 {
		t.Error("a method that is under way", ssa.Text(f))
	}
	own := built(t, v, 1)
	if f := pass(t, v, pass(t, v, own, 400), 400); Calls(f) != 1 {
		t.Error("its own method", ssa.Text(f))
	}
	// 60 nodes are laid in, 61 are not
	for n, calls := range map[int]int{59: 0, 60: 1} {
		code := []api.Instr{in(api.Const, 1)}
		for range n - 2 {
			code = append(code, in(api.Neg))
		}
		code = append(code, in(api.Neg), in(api.Ret))
		v := info(t, "", []api.Instr{in(api.Call, 1), in(api.Ret)}, api.Method{Ret: "I", Code: code})
		if f := pass(t, v, built(t, v, 0), 400); Calls(f) != calls {
			t.Error(n, Calls(f))
		}
	}
	// a Call whose state stands at another method's
	v = info(t, "", []api.Instr{in(api.Call, 1), in(api.Ret)}, api.Method{Ret: "I", Code: []api.Instr{in(api.Const, 1), in(api.Ret)}}, api.Method{Ret: "I", Code: []api.Instr{in(api.Const, 2), in(api.Ret)}})
	g := built(t, v, 0)
	g.Nodes[0].A = 2
	if f := pass(t, v, g, 400); Calls(f) != 1 {
		t.Error(ssa.Text(f))
	}
}

// TestWays has a method that returns at two places, one at one behind others, and one that never returns.
func TestWays(t *testing.T) {
	two := api.Method{Params: "I", Ret: "I", Code: []api.Instr{in(api.Load, 0), in(api.Zero, 4), in(api.Const, 1), in(api.Ret), in(api.Const, 2), in(api.Ret)}}
	one := api.Method{Params: "I", Ret: "I", Code: []api.Instr{in(api.In), in(api.Zero, 0), in(api.Load, 0), in(api.Ret)}}
	never := api.Method{Params: "I", Ret: "I", Code: []api.Instr{in(api.Jump, 0)}}
	main := []api.Instr{in(api.In), in(api.Call, 1), in(api.Dup), in(api.Out), in(api.Zero, 0), in(api.Const, 7), in(api.Ret)}
	for i, m := range []api.Method{two, one, never} {
		v := info(t, "", main, m)
		f := pass(t, v, built(t, v, 0), 400)
		if Calls(f) != 0 {
			t.Error(i, ssa.Text(f))
		}
		for _, input := range [][]int64{{0, 1}, {0, 0, 1, 1}, {3, 5}, {0, 0}} {
			for fuel := range 6 {
				want, _ := model.Run(v, input, fuel)
				for down := range 8 {
					if got, _, err := eval.Run(v, []api.Function{f}, input, fuel, []int{down}); err != nil || !reflect.DeepEqual(got, want) {
						t.Error(i, fuel, down, got, want, err)
					}
				}
			}
		}
	}
}

// TestVirtuals lays in a call whose state has objects that are not there; the argument names one that nobody else names.
func TestVirtuals(t *testing.T) {
	v := info(t, "R", []api.Instr{in(api.New, 0), in(api.Store, 0), in(api.Null), in(api.Call, 1), in(api.Load, 0), in(api.Is, 0), in(api.Add), in(api.Ret)},
		api.Method{Params: "R", Ret: "I", Code: []api.Instr{in(api.In), in(api.Ret)}})
	call := api.Node{Op: api.Call, A: 1, Kind: "I", State: 0, Args: []int{1}}
	f := api.Function{
		Nodes:  []api.Node{{Op: api.Const, Kind: "I", State: -1, N: 5}, {Op: api.Null, Kind: "R", State: -1}, call, {Op: api.Return, State: -1, Args: []int{2}}},
		Blocks: []api.Block{{Body: []int{0, 1, 2, 3}}},
		States: []api.State{{PC: 3, Up: -1, Locals: []int{-4}, Stack: []int{-2}, Virtuals: []api.Virtual{{Fields: []int{0, -2}}, {Fields: []int{0, 1}}, {Fields: []int{0, -3}}}}},
	}
	g := pass(t, v, f, 400)
	if Calls(g) != 0 {
		t.Fatal(ssa.Text(g))
	}
	for _, x := range g.Nodes {
		if x.Op == api.In {
			s := g.States[x.State]
			if len(s.Virtuals) != 2 || s.Virtuals[0].Fields[1] != -3 || g.States[s.Up].Locals[0] != -2 {
				t.Error(ssa.Text(g))
			}
		}
	}
	for _, down := range [][]int{nil, {0}} {
		if got, _, err := eval.Run(v, []api.Function{g}, []int64{4}, 1, down); err != nil || got.Value != int64(4+len(down)) {
			t.Error(got, err)
		}
	}
}

func TestErrors(t *testing.T) {
	v := info(t, "", []api.Instr{in(api.Const, 7), in(api.Ret)})
	for _, bad := range []api.Function{{}, {Blocks: []api.Block{{}}}} {
		if g, err := Pass(v, bad, 400); err != ssa.Check(v, bad) || err == nil || !reflect.DeepEqual(g, api.Function{}) {
			t.Error(err)
		}
	}
	if Calls(api.Function{}) != 0 || Calls(api.Function{Nodes: []api.Node{{Op: api.Call, A: 99, Args: []int{-5}}, {Op: api.Enter}}}) != 1 {
		t.Error("calls")
	}
}

func TestMeaning(t *testing.T) {
	laid := 0
	for seed := range uint64(400) {
		v := sample.Program(seed)
		d := sample.New(seed)
		input := sample.Inputs(seed)
		want, _ := model.Run(v, input, 90)
		var before, after []api.Function
		for m := range v.Program().Methods {
			f := built(t, v, m)
			g := pass(t, v, f, 50+d.Roll(400))
			for _, x := range g.Nodes {
				if x.Op == api.Enter {
					laid++
				}
			}
			for range d.Roll(3) {
				g = pass(t, v, g, 100+d.Roll(1000))
			}
			before, after = append(before, f), append(after, g)
		}
		_, a, _ := eval.Run(v, before, input, 90, nil)
		got, b, err := eval.Run(v, after, input, 90, nil)
		if err != nil || !reflect.DeepEqual(got, want) || a.Points != b.Points {
			t.Fatal(seed, got, want, a, b, err)
		}
		var down []int
		for k := range 40 {
			if d.Roll(4) == 0 {
				down = append(down, k)
			}
		}
		if got, _, _ := eval.Run(v, after, input, 90, down); !reflect.DeepEqual(got, want) {
			t.Fatal(seed, got, want)
		}
	}
	if laid < 150 {
		t.Error(laid)
	}
}
