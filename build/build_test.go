package build

import (
	"math"
	"reflect"
	"slices"
	"testing"

	"overdrive/api"
	"overdrive/eval"
	"overdrive/model"
	"overdrive/sample"
	"overdrive/ssa"
	"overdrive/verify"
)

var in = sample.In

func info(t *testing.T, locals string, main ...api.Instr) *verify.Info {
	t.Helper()
	v, err := verify.Of(api.Program{Classes: []api.Class{{Fields: "IR"}}, Methods: []api.Method{{Locals: locals, Ret: "I", Code: main}}})
	if err != nil {
		t.Fatal(err)
	}
	return v
}

func of(t *testing.T, v *verify.Info, method, entry int, guesses ...Guess) api.Function {
	t.Helper()
	f, err := Build(v, method, entry, guesses...)
	if err != nil {
		t.Fatal(err)
	}
	if err := ssa.Check(v, f); err != nil {
		t.Fatal(err, ssa.Text(f))
	}
	if f.Method != method || f.Entry != entry {
		t.Fatal(f.Method, f.Entry)
	}
	return f
}

func ops(f api.Function) []int {
	var l []int
	for _, b := range f.Blocks {
		for _, n := range append(slices.Clone(b.Phis), b.Body...) {
			l = append(l, f.Nodes[n].Op)
		}
	}
	return l
}

func TestExamples(t *testing.T) {
	f := of(t, info(t, "", in(api.Const, 1), in(api.Ret)), 0, 0)
	want := api.Function{Nodes: []api.Node{{Op: api.Const, Kind: "I", N: 1, State: -1}, {Op: api.Return, State: -1, Args: []int{0}}}, Blocks: []api.Block{{Body: []int{0, 1}}}}
	if !ssa.Same(f, want) {
		t.Error(ssa.Text(f))
	}
	f = of(t, info(t, "", in(api.In), in(api.Zero, 3), in(api.Jump, 0), in(api.Const, 2), in(api.Ret)), 0, 0)
	polls := 0
	for _, x := range f.Nodes {
		if x.Op == api.Poll {
			polls++
			if f.States[x.State].PC != 2 {
				t.Error("the poll's state", f.States[x.State])
			}
		}
	}
	if polls != 1 {
		t.Error(ssa.Text(f))
	}
}

func TestOneBlock(t *testing.T) {
	// a Jump that is never reached leads into the middle
	f := of(t, info(t, "IR", in(api.Load, 0), in(api.Const, 2), in(api.Swap), in(api.Dup), in(api.Pop), in(api.Sub), in(api.Load, 1), in(api.Pop), in(api.Ret), in(api.Jump, 3)), 0, 0)
	if got := ops(f); len(f.Blocks) != 1 || !slices.Equal(got, []int{api.Const, api.Null, api.Const, api.Sub, api.Return}) {
		t.Error(ssa.Text(f))
	}
	if x := f.Nodes[3]; !slices.Equal(x.Args, []int{2, 0}) {
		t.Error(ssa.Text(f))
	}
}

func TestZeros(t *testing.T) {
	// to the next instruction: a Goto
	f := of(t, info(t, "", in(api.In), in(api.Zero, 2), in(api.Const, 2), in(api.Ret)), 0, 0)
	if got := ops(f); !slices.Equal(got, []int{api.In, api.Goto, api.Const, api.Return}) {
		t.Error(ssa.Text(f))
	}
	// back: a Poll on that edge alone, with the state at the Zero
	v := info(t, "", in(api.In), in(api.Zero, 0), in(api.Const, 2), in(api.Ret))
	f = of(t, v, 0, 0)
	if got := ops(f); !slices.Equal(got, []int{api.Goto, api.In, api.Branch, api.Const, api.Return, api.Poll, api.Goto}) {
		t.Error(ssa.Text(f))
	}
	for _, x := range f.Nodes {
		if x.Op == api.Poll && (f.States[x.State].PC != 1 || !slices.Equal(f.States[x.State].Stack, []int{1})) {
			t.Error(ssa.Text(f))
		}
	}
	// guessed: Guards, that go on where it is as guessed
	f = of(t, v, 0, 0, Guess{PC: 1}, Guess{PC: 1, Zero: true})
	if got := ops(f); !slices.Equal(got, []int{api.In, api.Guard, api.Const, api.Return}) || f.Nodes[1].N != 1 || f.States[f.Nodes[1].State].PC != 1 {
		t.Error(ssa.Text(f))
	}
	f = of(t, v, 0, 0, Guess{PC: 1, Zero: true})
	if got := ops(f); !slices.Equal(got, []int{api.Goto, api.In, api.Guard, api.Poll, api.Goto}) || f.Nodes[2].N != 0 {
		t.Error(ssa.Text(f))
	}
	for _, zero := range []bool{false, true} {
		f = of(t, info(t, "", in(api.In), in(api.Zero, 2), in(api.Const, 2), in(api.Ret)), 0, 0, Guess{1, zero})
		if got := ops(f); !slices.Equal(got, []int{api.In, api.Guard, api.Goto, api.Const, api.Return}) || (f.Nodes[1].N == 0) != zero {
			t.Error(ssa.Text(f))
		}
	}
}

func TestErrors(t *testing.T) {
	v := info(t, "", in(api.Const, 2), in(api.Zero, 3), in(api.Jump, 0), in(api.Const, 1), in(api.Ret), in(api.Zero, 0))
	for i, x := range []struct {
		method, entry int
		guesses       []Guess
	}{{-1, 0, nil}, {1, 0, nil}, {math.MaxInt, 0, nil}, {0, -1, nil}, {0, 6, nil}, {0, 5, nil}, {0, 1, nil}, {0, 4, nil}, {0, 0, []Guess{{PC: 0}}}, {0, 0, []Guess{{PC: 1}, {PC: 5}}}, {0, 0, []Guess{{PC: -1}}}, {0, 0, []Guess{{PC: math.MaxInt}}}} {
		if f, err := Build(v, x.method, x.entry, x.guesses...); err != api.ErrIndex || !reflect.DeepEqual(f, api.Function{}) {
			t.Error(i, err)
		}
	}
	of(t, v, 0, 2)
	of(t, v, 0, 3, Guess{PC: 1})
}

func TestEntered(t *testing.T) {
	v := info(t, "IRI", in(api.Load, 0), in(api.Store, 2), in(api.Load, 2), in(api.Zero, 2), in(api.Load, 1), in(api.Get, 0, 0), in(api.Ret))
	f := of(t, v, 0, 2)
	params := map[int]string{}
	for _, n := range f.Blocks[0].Body {
		if f.Nodes[n].Op == api.Param {
			params[f.Nodes[n].A] = f.Nodes[n].Kind
		}
	}
	if !reflect.DeepEqual(params, map[int]string{1: "R", 2: "I"}) {
		t.Error(ssa.Text(f))
	}
	g := of(t, v, 0, 0)
	if slices.Contains(ops(g), api.Param) {
		t.Error("locals are no parameters", ssa.Text(g))
	}
}

func TestNewMemory(t *testing.T) {
	v := sample.Program(3)
	f, g := of(t, v, 0, 0), of(t, v, 0, 0)
	text := ssa.Text(g)
	for n := range f.Nodes {
		for k := range f.Nodes[n].Args {
			f.Nodes[n].Args[k] = -9
		}
	}
	for b := range f.Blocks {
		f.Blocks[b].Body[0] = -9
	}
	if ssa.Text(g) != text || ssa.Text(of(t, v, 0, 0)) != text {
		t.Error("memory is shared")
	}
}

// guessed is some guesses of a method.
func guessed(d *sample.Dice, v *verify.Info, method int) []Guess {
	var l []Guess
	for pc, i := range v.Program().Methods[method].Code {
		if _, is := v.Stack(method, pc); is && i.Op == api.Zero && d.Roll(2) == 0 {
			l = append(l, Guess{pc, d.Roll(3) == 0})
		}
	}
	return l
}

// TestMeaning asks that functions of any methods, by any guesses, given up anywhere, do what the model does.
func TestMeaning(t *testing.T) {
	given, overflows := 0, 0
	for seed := range uint64(400) {
		v := sample.Program(seed)
		d := sample.New(seed)
		input := sample.Inputs(seed)
		want, _ := model.Run(v, input, 100)
		for round := range 4 {
			var fs []api.Function
			for m := range v.Program().Methods {
				if d.Roll(4) == 0 {
					continue
				}
				if round < 2 {
					fs = append(fs, of(t, v, m, 0))
				} else {
					fs = append(fs, of(t, v, m, 0, guessed(d, v, m)...))
				}
			}
			var down []int
			for k := range 40 {
				if round%2 == 1 && d.Roll(5) == 0 {
					down = append(down, k)
				}
			}
			got, tally, err := eval.Run(v, fs, input, 100, down)
			if err != nil {
				t.Fatal(seed, err)
			}
			if got.Kind == api.Overflow {
				overflows++
				continue
			}
			if !reflect.DeepEqual(got, want) {
				t.Fatal(seed, round, got, want)
			}
			if round == 0 && tally.Downs != 0 {
				t.Fatal(seed, "given up without a reason")
			}
			given += tally.Downs
		}
	}
	if given < 500 || overflows > 0 {
		t.Error(given, overflows)
	}
}

// TestEntries builds each method from each instruction that may be entered.
func TestEntries(t *testing.T) {
	n := 0
	for seed := range uint64(120) {
		v := sample.Program(seed)
		for m, x := range v.Program().Methods {
			for pc := range x.Code {
				stack, is := v.Stack(m, pc)
				if !is || pc > 0 && stack != "" {
					if _, err := Build(v, m, pc); err != api.ErrIndex {
						t.Error(err)
					}
					continue
				}
				of(t, v, m, pc, guessed(sample.New(seed), v, m)...)
				n++
			}
		}
	}
	if n < 1000 {
		t.Error(n)
	}
}
