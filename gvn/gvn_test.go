package gvn

import (
	"reflect"
	"slices"
	"testing"

	"overdrive/api"
	"overdrive/build"
	"overdrive/eval"
	"overdrive/model"
	"overdrive/sample"
	"overdrive/ssa"
	"overdrive/verify"
	"overdrive/word"
)

func TestFree(t *testing.T) {
	for op := -2; op < 60; op++ {
		if want := op == api.Const || op == api.Null || op == api.Same || op == api.Is || word.Pure(op); Free(op) != want {
			t.Error(op)
		}
	}
	if Free(api.Div) || Free(api.New) || Free(api.Len) || Free(api.Phi) || !Free(api.Neg) {
		t.Error("free")
	}
}

var in = sample.In

func info(t *testing.T, locals string, code ...api.Instr) *verify.Info {
	t.Helper()
	v, err := verify.Of(api.Program{Classes: []api.Class{{Fields: "IR"}, {}}, Methods: []api.Method{{Locals: locals, Ret: "I", Code: code}}})
	if err != nil {
		t.Fatal(err)
	}
	return v
}

func built(t *testing.T, v *verify.Info, m int) api.Function {
	t.Helper()
	f, err := build.Build(v, m, 0)
	if err != nil {
		t.Fatal(err)
	}
	return f
}

func pass(t *testing.T, v *verify.Info, f api.Function, do func(*verify.Info, api.Function) (api.Function, error)) api.Function {
	t.Helper()
	text := ssa.Text(f)
	g, err := do(v, f)
	if err != nil {
		t.Fatal(err)
	}
	if err := ssa.Check(v, g); err != nil {
		t.Fatal(err, text, ssa.Text(g))
	}
	if ssa.Text(f) != text {
		t.Fatal("what was handed in was changed")
	}
	if again, _ := do(v, g); ssa.Size(again) != ssa.Size(g) {
		t.Fatal("not all was done")
	}
	return g
}

func ops(f api.Function) []int {
	var l []int
	for _, b := range f.Blocks {
		for _, n := range append(slices.Clone(b.Phis), b.Body...) {
			l = append(l, f.Nodes[n].Op)
		}
	}
	return l
}

func TestSame(t *testing.T) {
	c := api.Const
	for i, x := range []struct {
		code []api.Instr
		want []int
	}{
		{[]api.Instr{in(c, 1), in(c, 1), in(api.Add), in(api.Ret)}, []int{c, api.Add, api.Return}},
		{[]api.Instr{in(c, 1), in(c, 2), in(api.Sub), in(c, 1), in(c, 2), in(api.Sub), in(c, 2), in(c, 1), in(api.Sub), in(api.Mul), in(api.Mul), in(api.Ret)}, []int{c, c, api.Sub, api.Sub, api.Mul, api.Mul, api.Return}},
		{[]api.Instr{in(api.New, 0), in(api.Dup), in(api.Dup), in(api.Is, 0), in(api.Store, 0), in(api.Is, 0), in(api.Load, 0), in(api.Add), in(api.Store, 0), in(api.Is, 1), in(api.Ret)}, []int{api.New, api.Is, api.Add, api.Is, api.Return}},
		{[]api.Instr{in(api.New, 0), in(api.New, 0), in(api.Same), in(api.Ret)}, []int{api.New, api.New, api.Same, api.Return}},
		{[]api.Instr{in(api.In), in(api.In), in(api.Add), in(api.Ret)}, []int{api.In, api.In, api.Add, api.Return}},
		// one stands above both ways, those of the ways don't stand above one another
		{[]api.Instr{in(c, 1), in(api.Store, 0), in(api.In), in(api.Zero, 7), in(c, 1), in(c, 2), in(api.Jump, 9), in(c, 1), in(c, 2), in(api.Add), in(api.Ret)}, []int{c, api.In, api.Branch, c, api.Goto, c, api.Goto, api.Phi, api.Phi, api.Add, api.Return}},
	} {
		v := info(t, "I", x.code...)
		f := pass(t, v, built(t, v, 0), Same)
		if got := ops(f); !slices.Equal(got, x.want) {
			t.Error(i, got, ssa.Text(f))
		}
	}
}

func TestDead(t *testing.T) {
	c := api.Const
	for i, x := range []struct {
		code []api.Instr
		want []int
	}{
		{[]api.Instr{in(c, 1), in(api.Pop), in(c, 2), in(api.Neg), in(api.Pop), in(c, 3), in(api.Ret)}, []int{c, api.Return}},
		{[]api.Instr{in(api.In), in(api.Pop), in(api.New, 0), in(api.Pop), in(c, 3), in(api.Ret)}, []int{api.In, api.New, c, api.Return}},
		// named by a state alone
		{[]api.Instr{in(c, 1), in(api.Store, 0), in(api.In), in(api.Load, 0), in(api.Pop), in(api.Ret)}, []int{c, api.In, api.Return}},
		// phis that name one another alone; those that a state names stay
		{[]api.Instr{in(c, 1), in(api.Store, 0), in(c, 1), in(api.Zero, 9), in(api.Load, 0), in(c, 1), in(api.Add), in(api.Store, 0), in(api.Jump, 2), in(c, 7), in(api.Ret)}, []int{c, api.Goto, api.Phi, c, api.Branch, c, api.Add, api.Poll, api.Goto, c, api.Return}},
	} {
		v := info(t, "I", x.code...)
		f := pass(t, v, built(t, v, 0), Dead)
		if got := ops(f); !slices.Equal(got, x.want) {
			t.Error(i, got, ssa.Text(f))
		}
	}
}

// TestDeadRound has two phis that name one another alone.
func TestDeadRound(t *testing.T) {
	v := info(t, "", in(api.In), in(api.Zero, 0), in(api.Const, 7), in(api.Ret))
	f := built(t, v, 0)
	head := f.Blocks[0].Succ[0]
	n := len(f.Nodes)
	f.Nodes = append(f.Nodes, api.Node{Op: api.Const, Kind: "I", State: -1},
		api.Node{Op: api.Phi, Kind: "I", State: -1, Args: []int{n, n + 2}}, api.Node{Op: api.Phi, Kind: "I", State: -1, Args: []int{n, n + 1}})
	f.Blocks[0].Body = append([]int{n}, f.Blocks[0].Body...)
	f.Blocks[head].Phis = []int{n + 1, n + 2}
	if err := ssa.Check(v, f); err != nil {
		t.Fatal(err)
	}
	if g := pass(t, v, f, Dead); ssa.Size(g) != n || slices.Contains(ops(g), api.Phi) {
		t.Error(ssa.Text(g))
	}
}

func TestErrors(t *testing.T) {
	v := info(t, "", in(api.Const, 7), in(api.Ret))
	for _, do := range []func(*verify.Info, api.Function) (api.Function, error){Same, Dead} {
		for _, bad := range []api.Function{{}, {Blocks: []api.Block{{}}}} {
			if g, err := do(v, bad); err != ssa.Check(v, bad) || err == nil || !reflect.DeepEqual(g, api.Function{}) {
				t.Error(err)
			}
		}
	}
}

// none asks that no two nodes are the same of which one stands above the other.
func none(t *testing.T, f api.Function) {
	t.Helper()
	o := ssa.Placing(f)
	for a, x := range f.Nodes {
		for b, y := range f.Nodes {
			if Free(x.Op) && x.Op == y.Op && x.A == y.A && x.N == y.N && slices.Equal(x.Args, y.Args) && a != b && o.Above(a, b) {
				t.Fatal("the same", a, b)
			}
		}
	}
}

// inOrder asks that the nodes that stay have kept their order: their own numbers rise as ever they did.
func inOrder(t *testing.T, f, g api.Function) {
	t.Helper()
	k := 0
	for _, x := range g.Nodes {
		for k < len(f.Nodes) && (f.Nodes[k].Op != x.Op || f.Nodes[k].A != x.A || f.Nodes[k].N != x.N) {
			k++
		}
		if k++; k > len(f.Nodes) {
			t.Fatal("order")
		}
	}
}

func TestMeaning(t *testing.T) {
	smaller := 0
	for seed := range uint64(300) {
		v := sample.Program(seed)
		d := sample.New(seed)
		input := sample.Inputs(seed)
		want, _ := model.Run(v, input, 90)
		var stages [3][]api.Function
		for m := range v.Program().Methods {
			f := built(t, v, m)
			g := pass(t, v, f, Same)
			none(t, g)
			inOrder(t, f, g)
			h := pass(t, v, g, Dead)
			inOrder(t, g, h)
			uses := ssa.Uses(h)
			for n, x := range h.Nodes {
				if (Free(x.Op) || x.Op == api.Phi || x.Op == api.Param) && uses[n] == 0 {
					t.Fatal("for nothing")
				}
			}
			if ssa.Size(h) < ssa.Size(f) {
				smaller++
			}
			stages[0], stages[1], stages[2] = append(stages[0], f), append(stages[1], g), append(stages[2], h)
		}
		var down []int
		for k := range 30 {
			if d.Roll(4) == 0 {
				down = append(down, k)
			}
		}
		for _, list := range [][]int{nil, down} {
			var last eval.Tally
			for k, fs := range stages {
				got, tally, err := eval.Run(v, fs, input, 90, list)
				if err != nil || !reflect.DeepEqual(got, want) || k > 0 && (tally.Points != last.Points || tally.Nodes > last.Nodes) {
					t.Fatal(seed, k, got, want, tally, last, err)
				}
				last = tally
			}
		}
	}
	if smaller < 100 {
		t.Error(smaller)
	}
}
