package escape

import (
	"reflect"
	"slices"
	"testing"

	"overdrive/api"
	"overdrive/build"
	"overdrive/eval"
	"overdrive/fold"
	"overdrive/gvn"
	"overdrive/inline"
	"overdrive/model"
	"overdrive/sample"
	"overdrive/ssa"
	"overdrive/verify"
)

var in = sample.In

func info(t *testing.T, locals string, code ...api.Instr) *verify.Info {
	t.Helper()
	v, err := verify.Of(api.Program{Classes: []api.Class{{Fields: "IR"}, {Fields: "R"}}, Methods: []api.Method{{Locals: locals, Ret: "I", Code: code}, {Params: "R", Code: []api.Instr{in(api.Ret)}}}})
	if err != nil {
		t.Fatal(err)
	}
	return v
}

func built(t *testing.T, v *verify.Info, m int) api.Function {
	t.Helper()
	f, err := build.Build(v, m, 0)
	if err != nil {
		t.Fatal(err)
	}
	return f
}

func pass(t *testing.T, v *verify.Info, f api.Function) api.Function {
	t.Helper()
	text := ssa.Text(f)
	g, err := Pass(v, f)
	if err != nil {
		t.Fatal(err)
	}
	if err := ssa.Check(v, g); err != nil {
		t.Fatal(err, text, ssa.Text(g))
	}
	if ssa.Text(f) != text {
		t.Fatal("what was handed in was changed")
	}
	return g
}

func ops(f api.Function) []int {
	var l []int
	for _, b := range f.Blocks {
		for _, n := range append(slices.Clone(b.Phis), b.Body...) {
			l = append(l, f.Nodes[n].Op)
		}
	}
	return l
}

func count(f api.Function, op int) int {
	n := 0
	for _, x := range ops(f) {
		if x == op {
			n++
		}
	}
	return n
}

// news is which News get out, in their order.
func news(f api.Function) []bool {
	var l []bool
	for n, is := range Escapes(f) {
		if f.Nodes[n].Op == api.New {
			l = append(l, is)
		} else if is {
			l = append(l, true, true, true)
		}
	}
	return l
}

func TestEscapes(t *testing.T) {
	c := in(api.Const, 1)
	n0, n1 := in(api.New, 0), in(api.New, 1)
	for i, x := range []struct {
		code []api.Instr
		want []bool
	}{
		{[]api.Instr{n0, in(api.Get, 0, 0), in(api.Ret)}, []bool{false}},
		{[]api.Instr{n0, in(api.Is, 1), in(api.Ret)}, []bool{false}},
		{[]api.Instr{n1, in(api.Get, 0, 0), in(api.Ret)}, []bool{true}},
		{[]api.Instr{n0, c, in(api.Put, 0, 0), c, in(api.Ret)}, []bool{false}},
		{[]api.Instr{n1, c, in(api.Put, 0, 0), c, in(api.Ret)}, []bool{true}},
		{[]api.Instr{n0, in(api.Dup), in(api.Same), in(api.Ret)}, []bool{true}},
		{[]api.Instr{n0, in(api.Call, 1), c, in(api.Ret)}, []bool{true}},
		{[]api.Instr{n0, in(api.Len), in(api.Ret)}, []bool{true}},
		{[]api.Instr{n0, in(api.Store, 0), in(api.In), in(api.Load, 0), in(api.Pop), in(api.Ret)}, []bool{false}},
		{[]api.Instr{n0, n1, in(api.Put, 0, 1), c, in(api.Ret)}, []bool{false, false}},
		{[]api.Instr{n0, in(api.Dup), n1, in(api.Put, 0, 1), in(api.Get, 0, 0), in(api.Ret)}, []bool{false, false}},
		{[]api.Instr{n0, in(api.Dup), n1, in(api.Put, 0, 1), in(api.Get, 0, 1), in(api.Pop), c, in(api.Ret)}, []bool{false, true}},
		{[]api.Instr{n0, in(api.Dup), n1, in(api.Put, 0, 1), in(api.Call, 1), c, in(api.Ret)}, []bool{true, true}},
		{[]api.Instr{n0, in(api.Dup), in(api.Dup), in(api.Put, 0, 1), in(api.Is, 0), in(api.Ret)}, []bool{false}},
		{[]api.Instr{in(api.Null), n0, in(api.Put, 0, 1), c, in(api.Ret)}, []bool{true}},
		{[]api.Instr{n1, n0, in(api.Put, 0, 1), c, in(api.Ret)}, []bool{true, true}},
	} {
		if got := news(built(t, info(t, "R", x.code...), 0)); !slices.Equal(got, x.want) {
			t.Error(i, got)
		}
	}
	Escapes(api.Function{Nodes: []api.Node{{Op: api.New, A: -5}, {Op: api.Put, Args: []int{-1, 0}}, {Op: api.Put, Args: []int{0, 0, 0}}, {Op: api.Get, Args: []int{0}}, {Op: api.Get}, {Op: api.Put, Args: []int{9, 0}}}})
}

func TestExamples(t *testing.T) {
	v := info(t, "R", in(api.New, 0), in(api.Store, 0), in(api.Load, 0), in(api.Const, 5), in(api.Put, 0, 0), in(api.Load, 0), in(api.Get, 0, 0), in(api.Out), in(api.Const, 1), in(api.Ret))
	f := pass(t, v, built(t, v, 0))
	if got := ops(f); !slices.Equal(got, []int{api.Const, api.Out, api.Const, api.Return}) || f.Nodes[f.Nodes[1].Args[0]].N != 5 {
		t.Error(ssa.Text(f))
	}
	// a ring of two, in a state
	v = info(t, "RR", in(api.New, 0), in(api.Store, 0), in(api.New, 0), in(api.Store, 1), in(api.Load, 0), in(api.Load, 1), in(api.Put, 0, 1), in(api.Load, 1), in(api.Load, 0), in(api.Put, 0, 1),
		in(api.In), in(api.Load, 0), in(api.Is, 0), in(api.Load, 1), in(api.Is, 1), in(api.Add), in(api.Add), in(api.Ret))
	f = pass(t, v, built(t, v, 0))
	if count(f, api.New)+count(f, api.Put)+count(f, api.Is) > 0 || len(f.States) != 1 {
		t.Fatal(ssa.Text(f))
	}
	if s := f.States[0]; len(s.Virtuals) != 2 || s.Virtuals[0].Fields[1] != -3 || s.Virtuals[1].Fields[1] != -2 || !slices.Equal(s.Locals, []int{-2, -3}) {
		t.Error(ssa.Text(f))
	}
	for _, input := range [][]int64{{4}, nil} {
		want, _ := model.Run(v, input, 0)
		if got, _, err := eval.Run(v, []api.Function{f}, input, 0, nil); err != nil || !reflect.DeepEqual(got, want) {
			t.Error(got, want)
		}
	}
}

// TestPhis has a field that two ways put, and one that a loop puts round by round.
func TestPhis(t *testing.T) {
	v := info(t, "R", in(api.New, 0), in(api.Store, 0), in(api.In), in(api.Zero, 8), in(api.Load, 0), in(api.Const, 5), in(api.Put, 0, 0), in(api.Jump, 8), in(api.Load, 0), in(api.Get, 0, 0), in(api.Ret))
	f := pass(t, v, built(t, v, 0))
	if count(f, api.New) != 0 || count(f, api.Phi) != 1 {
		t.Error(ssa.Text(f))
	}
	loop := info(t, "R", in(api.New, 0), in(api.Store, 0),
		in(api.Load, 0), in(api.Load, 0), in(api.Get, 0, 0), in(api.Const, 1), in(api.Add), in(api.Put, 0, 0), in(api.In), in(api.Zero, 2),
		in(api.Load, 0), in(api.Get, 0, 0), in(api.Ret))
	g := pass(t, loop, built(t, loop, 0))
	if count(g, api.New) != 0 || count(g, api.Phi) != 1 || count(g, api.Get) != 0 {
		t.Error(ssa.Text(g))
	}
	for k := range 5 {
		input := append(make([]int64, k), 3)
		want, _ := model.Run(loop, input, 9)
		for down := range 6 {
			if got, _, err := eval.Run(loop, []api.Function{g}, input, 9, []int{down}); err != nil || !reflect.DeepEqual(got, want) || want.Value != int64(k+1) {
				t.Error(k, got, want, err)
			}
		}
	}
}

// TestStays has a field that two ways put unlike objects into: that of one way would need a phi.
func TestStays(t *testing.T) {
	code := []api.Instr{in(api.New, 0), in(api.Store, 0), in(api.New, 1), in(api.Store, 1), in(api.In), in(api.Zero, 9), in(api.Load, 0), in(api.Load, 1), in(api.Put, 0, 1), in(api.In), in(api.Load, 0), in(api.Is, 0), in(api.Add), in(api.Ret)}
	v := info(t, "RR", code...)
	f := pass(t, v, built(t, v, 0))
	if count(f, api.New) != 2 || count(f, api.Put) != 1 {
		t.Error(ssa.Text(f))
	}
	// put on both ways, it is known
	both := slices.Clone(code)
	both[6], both[7], both[8] = in(api.Const, 3), in(api.Pop), in(api.Jump, 9)
	both = append(append(append([]api.Instr{}, both[:4]...), in(api.Load, 0), in(api.Load, 1), in(api.Put, 0, 1)), both[4:]...)
	for k := range both {
		if both[k].Op == api.Zero || both[k].Op == api.Jump {
			both[k].A += 3
		}
	}
	v = info(t, "RR", both...)
	if f := pass(t, v, built(t, v, 0)); count(f, api.New) != 0 {
		t.Error(ssa.Text(f))
	}
	// what is put into one that stays stays
	three := info(t, "RRR", in(api.New, 0), in(api.Store, 0), in(api.New, 0), in(api.Store, 1), in(api.New, 1), in(api.Store, 2), in(api.Load, 1), in(api.Load, 2), in(api.Put, 0, 1), in(api.In), in(api.Zero, 14), in(api.Load, 0), in(api.Load, 1), in(api.Put, 0, 1), in(api.In), in(api.Load, 0), in(api.Is, 0), in(api.Add), in(api.Ret))
	if f := pass(t, three, built(t, three, 0)); count(f, api.New) != 3 {
		t.Error(ssa.Text(f))
	}
}

// TestAgain has an object that goes only when the one that it was read from is gone.
func TestAgain(t *testing.T) {
	v := info(t, "RR", in(api.New, 1), in(api.Store, 0), in(api.Load, 0), in(api.New, 0), in(api.Put, 1, 0), in(api.Load, 0), in(api.Get, 1, 0), in(api.Dup), in(api.Const, 8), in(api.Put, 0, 0), in(api.Get, 0, 0), in(api.Ret))
	f := pass(t, v, built(t, v, 0))
	if o, _, err := eval.Run(v, []api.Function{f}, nil, 0, nil); err != nil || o.Value != 8 || count(f, api.New)+count(f, api.Get)+count(f, api.Put) > 0 {
		t.Error(o, ssa.Text(f))
	}
}

// TestSharedState has a state that two nodes have, between which a field changes.
func TestSharedState(t *testing.T) {
	v := info(t, "R", in(api.New, 0), in(api.Store, 0), in(api.In), in(api.Pop), in(api.Load, 0), in(api.Const, 9), in(api.Put, 0, 0), in(api.Load, 0), in(api.Get, 0, 0), in(api.Ret))
	node := func(op int, kind string, state int, args ...int) api.Node {
		return api.Node{Op: op, Kind: kind, State: state, Args: args}
	}
	f := api.Function{
		Nodes:  []api.Node{node(api.New, "R", 0), node(api.In, "I", 1), node(api.Const, "I", -1), node(api.Put, "", 2, 0, 2), node(api.In, "I", 1), node(api.Get, "I", 3, 0), node(api.Return, "", -1, 5)},
		Blocks: []api.Block{{Body: []int{0, 1, 2, 3, 4, 5, 6}}},
		States: []api.State{{Up: -1, Locals: []int{-1}}, {Up: -1, PC: 2, Locals: []int{0}}, {Up: -1, PC: 6, Locals: []int{0}, Stack: []int{0, 2}}, {Up: -1, PC: 8, Locals: []int{-1}, Stack: []int{0}}},
	}
	g := pass(t, v, f)
	var fields [][]int
	for _, x := range g.Nodes {
		if x.Op == api.In {
			fields = append(fields, g.States[x.State].Virtuals[0].Fields)
		}
	}
	if count(g, api.New) != 0 || len(fields) != 2 || fields[0][0] == fields[1][0] || fields[0][1] != fields[1][1] {
		t.Error(ssa.Text(g))
	}
}

func TestBarriers(t *testing.T) {
	v := info(t, "RR",
		in(api.New, 0), in(api.Store, 0), in(api.Load, 0), in(api.Null), in(api.Put, 0, 1), // a barrier's
		in(api.Load, 0), in(api.Const, 1), in(api.Put, 0, 0), // no reference
		in(api.In), in(api.Pop), in(api.Load, 0), in(api.Load, 0), in(api.Put, 0, 1), // no safepoint between
		in(api.New, 1), in(api.Store, 1), in(api.Load, 0), in(api.Load, 1), in(api.Put, 0, 1), // one between
		in(api.Load, 1), in(api.Load, 0), in(api.Put, 1, 0),
		in(api.Load, 1), in(api.Call, 1), in(api.Load, 1), in(api.Load, 0), in(api.Put, 1, 0),
		in(api.Const, 1), in(api.Ret))
	f := built(t, v, 0)
	var puts []int
	for n, x := range f.Nodes {
		if x.Op == api.Put {
			puts = append(puts, n)
		}
	}
	if got := Barriers(v, f); !slices.Equal(got, []int{puts[0], puts[2], puts[4]}) {
		t.Error(got, puts)
	}
	if got := Barriers(v, api.Function{Nodes: []api.Node{{Op: api.New}, {Op: api.Put, Args: []int{0, 0}}}}); len(got) != 0 {
		t.Error(got)
	}
}

func TestErrors(t *testing.T) {
	v := info(t, "", in(api.Const, 7), in(api.Ret))
	for _, bad := range []api.Function{{}, {Blocks: []api.Block{{}}}} {
		if g, err := Pass(v, bad); err != ssa.Check(v, bad) || err == nil || !reflect.DeepEqual(g, api.Function{}) {
			t.Error(err)
		}
	}
}

// plain asks that no New is left that nothing but Gets and Puts of its own class in its own block name, as their object.
func plain(t *testing.T, f api.Function) {
	t.Helper()
	o := ssa.Placing(f)
	out := Escapes(f)
	for n, x := range f.Nodes {
		if x.Op != api.New || out[n] {
			continue
		}
		only, uses := 0, ssa.Uses(f)[n]
		for k, y := range f.Nodes {
			if (y.Op == api.Get || y.Op == api.Put) && y.Args[0] == n && y.A == x.A && o.Block[k] == o.Block[n] {
				only++
			}
		}
		if only == uses {
			t.Fatal("left", n, ssa.Text(f))
		}
	}
}

func TestMeaning(t *testing.T) {
	gone, virtual, kept := 0, 0, 0
	for seed := range uint64(500) {
		v := sample.Program(seed)
		d := sample.New(seed)
		input := sample.Inputs(seed)
		want, _ := model.Run(v, input, 90)
		var before, after []api.Function
		for m := range v.Program().Methods {
			f := built(t, v, m)
			if d.Roll(3) > 0 {
				f, _ = inline.Pass(v, f, 400)
				f, _ = fold.Pass(v, f)
				f, _ = gvn.Same(v, f)
			}
			g := pass(t, v, f)
			plain(t, g)
			if again := pass(t, v, g); !ssa.Same(again, g) {
				t.Fatal("not all was done")
			}
			if d.Roll(2) == 0 {
				g, _ = inline.Pass(v, g, 600)
				g = pass(t, v, g)
			}
			gone += count(f, api.New) - count(g, api.New)
			kept += count(g, api.New)
			for _, s := range g.States {
				virtual += len(s.Virtuals)
			}
			before, after = append(before, f), append(after, g)
		}
		got, _, err := eval.Run(v, after, input, 90, nil)
		if err != nil || !reflect.DeepEqual(got, want) {
			t.Fatal(seed, got, want, err)
		}
		for round := range 3 {
			var down []int
			for k := range 60 {
				if d.Roll(3+2*round) == 0 {
					down = append(down, k)
				}
			}
			if got, _, _ := eval.Run(v, after, input, 90, down); !reflect.DeepEqual(got, want) {
				t.Fatal(seed, got, want)
			}
		}
	}
	t.Log(gone, kept, virtual)
	if gone < 300 || virtual < 100 {
		t.Error(gone, virtual)
	}
}
