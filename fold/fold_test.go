package fold

import (
	"math"
	"reflect"
	"testing"

	"overdrive/api"
	"overdrive/build"
	"overdrive/eval"
	"overdrive/model"
	"overdrive/sample"
	"overdrive/ssa"
	"overdrive/verify"
)

func node(op int, kind string, args ...int) api.Node {
	return api.Node{Op: op, Kind: kind, State: -1, Args: args}
}

func number(n int64) api.Node { return api.Node{Op: api.Const, Kind: "I", State: -1, N: n} }

func TestKnown(t *testing.T) {
	f := api.Function{Nodes: []api.Node{number(2), number(3), node(api.Add, "I", 0, 1), node(api.Neg, "I", 2), node(api.Div, "I", 0, 1), node(api.Phi, "I", 0, 0), node(api.Mul, "I", 2, 5), node(api.Same, "I", 8, 8), node(api.Null, "R"), node(api.Shl, "I", 3, 2)}}
	for n, want := range []struct {
		n  int64
		is bool
	}{{2, true}, {3, true}, {5, true}, {-5, true}, {}, {}, {}, {}, {}, {-160, true}} {
		if got, is := Known(f, n); got != want.n || is != want.is {
			t.Error(n, got, is)
		}
	}
	for _, n := range []int{-1, 10, math.MaxInt, math.MinInt} {
		if got, is := Known(f, n); got != 0 || is {
			t.Error(n)
		}
	}
}

// TestKnownDeep has a row in which each node names the one ahead twice.
func TestKnownDeep(t *testing.T) {
	f := api.Function{Nodes: []api.Node{number(1)}}
	for n := range 300 {
		f.Nodes = append(f.Nodes, node(api.Add, "I", n, n))
	}
	for n := range f.Nodes {
		got, is := Known(f, n)
		if is != (n < 100) || is && n < 62 && got != 1<<n {
			t.Error(n, got, is)
		}
	}
	// deep on one side, known on the other
	f.Nodes = append(f.Nodes, node(api.Add, "I", 0, 98), node(api.Add, "I", 0, 99))
	if _, is := Known(f, 301); !is {
		t.Error("100 deep")
	}
	if _, is := Known(f, 302); is {
		t.Error("101 deep")
	}
}

func TestKnownOfAny(t *testing.T) {
	f := api.Function{Nodes: []api.Node{node(api.Add, "I", 0, 1), node(api.Add, "I", 0), node(api.Neg, "I"), node(api.Neg, "I", 5, 5), node(api.Add, "I", 5, -7), number(1), node(api.Add, "I", 5, 5, 5)}}
	for n := range 5 {
		if _, is := Known(f, n); is {
			t.Error(n)
		}
	}
	if _, is := Known(f, 6); is {
		t.Error("three")
	}
}

func pass(t *testing.T, v *verify.Info, f api.Function) api.Function {
	t.Helper()
	text := ssa.Text(f)
	g, err := Pass(v, f)
	if err != nil {
		t.Fatal(err)
	}
	if err := ssa.Check(v, g); err != nil {
		t.Fatal(err, text, ssa.Text(g))
	}
	if ssa.Text(f) != text {
		t.Fatal("what was handed in was changed")
	}
	return g
}

var in = sample.In

func of(t *testing.T, guesses []build.Guess, code ...api.Instr) (*verify.Info, api.Function) {
	t.Helper()
	v, err := verify.Of(api.Program{Methods: []api.Method{{Locals: "I", Ret: "I", Code: code}}})
	if err != nil {
		t.Fatal(err)
	}
	f, err := build.Build(v, 0, 0, guesses...)
	if err != nil {
		t.Fatal(err)
	}
	return v, pass(t, v, f)
}

func TestPass(t *testing.T) {
	count := func(f api.Function, op int) int {
		n := 0
		for _, x := range f.Nodes {
			if x.Op == op {
				n++
			}
		}
		return n
	}
	_, f := of(t, nil, in(api.Const, 2), in(api.Const, 3), in(api.Add), in(api.Ret))
	if f.Nodes[2].Op != api.Const || f.Nodes[2].N != 5 || len(f.Nodes[2].Args) != 0 {
		t.Error(ssa.Text(f))
	}
	for _, c := range []int{0, 7} {
		_, f = of(t, nil, in(api.Const, c), in(api.Zero, 4), in(api.Const, 1), in(api.Ret), in(api.Const, 2), in(api.Ret))
		if count(f, api.Branch) != 0 || count(f, api.Goto) != 1 || len(f.Blocks) != 2 || count(f, api.Const) != 2 {
			t.Error(c, ssa.Text(f))
		}
	}
	// two ways to one place, of which one is gone: no phi is left, and what is known then is
	_, f = of(t, nil, in(api.Const, 0), in(api.Zero, 4), in(api.Const, 8), in(api.Jump, 5), in(api.Const, 9), in(api.Const, 1), in(api.Add), in(api.Zero, 0), in(api.Const, 3), in(api.Ret))
	if count(f, api.Phi) != 0 || count(f, api.Branch) != 0 || count(f, api.Poll) != 0 {
		t.Error(ssa.Text(f))
	}
	for _, x := range []struct {
		c     int
		zero  bool
		stays int
	}{{0, true, 0}, {0, false, 1}, {5, false, 0}, {5, true, 1}} {
		_, f = of(t, []build.Guess{{PC: 1, Zero: x.zero}}, in(api.Const, x.c), in(api.Zero, 4), in(api.Const, 1), in(api.Ret), in(api.Const, 2), in(api.Ret))
		if count(f, api.Guard) != x.stays {
			t.Error(x, ssa.Text(f))
		}
	}
	v, _ := of(t, nil, in(api.Const, 2), in(api.Ret))
	for _, bad := range []api.Function{{}, {Blocks: []api.Block{{}}}} {
		if g, err := Pass(v, bad); err != ssa.Check(v, bad) || err == nil || !reflect.DeepEqual(g, api.Function{}) {
			t.Error(err)
		}
	}
}

// left asks that nothing is left to be known.
func left(t *testing.T, f api.Function) {
	t.Helper()
	for n, x := range f.Nodes {
		if _, is := Known(f, n); is && x.Op != api.Const {
			t.Fatal("known", n)
		}
		if x.Op == api.Branch && f.Nodes[x.Args[0]].Op == api.Const {
			t.Fatal("branch", n)
		}
		if x.Op == api.Guard && f.Nodes[x.Args[0]].Op == api.Const && (f.Nodes[x.Args[0]].N != 0) == (x.N == 1) {
			t.Fatal("guard", n)
		}
		if x.Op == api.Phi {
			others := map[int]int{}
			for _, a := range x.Args {
				if a != n {
					others[a]++
				}
			}
			if len(others) < 2 {
				t.Fatal("phi", n)
			}
		}
	}
}

func TestMeaning(t *testing.T) {
	smaller := 0
	for seed := range uint64(300) {
		v := sample.Program(seed)
		d := sample.New(seed)
		input := sample.Inputs(seed)
		want, _ := model.Run(v, input, 90)
		var before, after []api.Function
		for m, x := range v.Program().Methods {
			var guesses []build.Guess
			for pc, i := range x.Code {
				if _, is := v.Stack(m, pc); is && i.Op == api.Zero && d.Roll(3) == 0 {
					guesses = append(guesses, build.Guess{PC: pc, Zero: d.Roll(2) == 0})
				}
			}
			f, err := build.Build(v, m, 0, guesses...)
			if err != nil {
				t.Fatal(err)
			}
			g := pass(t, v, f)
			left(t, g)
			if again := pass(t, v, g); ssa.Size(again) != ssa.Size(g) {
				t.Fatal("not all was done")
			}
			if ssa.Size(g) < ssa.Size(f) {
				smaller++
			}
			before, after = append(before, f), append(after, g)
		}
		_, a, _ := eval.Run(v, before, input, 90, nil)
		got, b, err := eval.Run(v, after, input, 90, nil)
		if err != nil || !reflect.DeepEqual(got, want) || b.Points > a.Points || b.Nodes > a.Nodes {
			t.Fatal(seed, got, want, a, b, err)
		}
		var down []int
		for k := range 30 {
			if d.Roll(4) == 0 {
				down = append(down, k)
			}
		}
		if got, _, _ := eval.Run(v, after, input, 90, down); !reflect.DeepEqual(got, want) {
			t.Fatal(seed, got, want)
		}
	}
	if smaller < 100 {
		t.Error(smaller)
	}
}
