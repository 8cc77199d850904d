package ssa

import (
	"math"
	"slices"
	"strconv"
	"testing"

	"overdrive/api"
	"overdrive/sample"
	"overdrive/verify"
)

var in = sample.In

// info is a loop with a call in it, whose method is laid in by function.
func info(t *testing.T) *verify.Info {
	t.Helper()
	v, err := verify.Of(api.Program{
		Classes: []api.Class{{Fields: "IR"}, {}},
		Methods: []api.Method{
			{Locals: "RI", Ret: "I", Code: []api.Instr{in(api.In), in(api.Store, 1), in(api.New, 0), in(api.Store, 0), in(api.Load, 0), in(api.Load, 1), in(api.Call, 1), in(api.Zero, 4), in(api.Const), in(api.Ret), in(api.Jump, 10)}},
			{Params: "RI", Ret: "I", Code: []api.Instr{in(api.Load, 0), in(api.Load, 1), in(api.Put, 0, 0), in(api.Load, 1), in(api.Ret)}},
			{Params: "RI", Locals: "R", Ret: "R", Code: []api.Instr{in(api.Load, 2), in(api.Ret)}},
		},
	})
	if err != nil {
		t.Fatal(err)
	}
	return v
}

func node(op int, kind string, state int, args ...int) api.Node {
	return api.Node{Op: op, Kind: kind, State: state, Args: args}
}

func function() api.Function {
	return api.Function{
		Nodes: []api.Node{
			node(api.In, "I", 0), node(api.New, "R", 1), node(api.Goto, "", -1),
			node(api.Enter, "", 2), node(api.Put, "", 4, 1, 0), node(api.Branch, "", -1, 0),
			node(api.Poll, "", 5), node(api.Goto, "", -1),
			node(api.Const, "I", -1), node(api.Return, "", -1, 8),
		},
		Blocks: []api.Block{
			{Body: []int{0, 1, 2}, Succ: []int{1}},
			{Body: []int{3, 4, 5}, Succ: []int{3, 2}, Preds: []int{0, 2}},
			{Body: []int{6, 7}, Succ: []int{1}, Preds: []int{1}},
			{Body: []int{8, 9}, Preds: []int{1}},
		},
		States: []api.State{
			{Up: -1, Locals: []int{-1, -1}},
			{Up: -1, PC: 2, Locals: []int{-1, 0}},
			{Up: -1, PC: 6, Locals: []int{1, 0}, Stack: []int{1, 0}},
			{Up: -1, PC: 6, Locals: []int{1, 0}},
			{Up: 3, Method: 1, PC: 2, Locals: []int{-1, 0}, Stack: []int{1, 0}},
			{Up: -1, PC: 7, Locals: []int{1, 0}, Stack: []int{0}},
		},
	}
}

// virtual has the object of the Poll's state, and of the Put's beneath, not there.
func virtual() api.Function {
	f := function()
	f.States[5].Locals[0] = -3
	f.States[5].Virtuals = []api.Virtual{{Class: 1}, {Fields: []int{0, -2}}}
	f.States[3].Locals[0] = -2
	f.States[3].Virtuals = []api.Virtual{{Class: 77}}
	f.States[4].Virtuals = []api.Virtual{{Fields: []int{0, -2}}}
	return f
}

func TestCheckTakes(t *testing.T) {
	v := info(t)
	if err := Check(v, function()); err != nil {
		t.Error(err)
	}
	if err := Check(v, virtual()); err != nil {
		t.Error(err)
	}
	tiny, _ := verify.Of(api.Program{Methods: []api.Method{{Ret: "I", Code: []api.Instr{in(api.Const), in(api.Ret)}}}})
	if err := Check(tiny, api.Function{Nodes: []api.Node{node(api.Const, "I", -1), node(api.Return, "", -1, 0)}, Blocks: []api.Block{{Body: []int{0, 1}}}}); err != nil {
		t.Error(err)
	}
	for i, change := range []func(f *api.Function){
		func(f *api.Function) { f.States = append(f.States, api.State{Method: 9, Up: 77}) }, // nobody's
		func(f *api.Function) { f.Nodes[8].N = math.MinInt64 },
		func(f *api.Function) {
			f.Nodes[4].State, f.Nodes[4] = 2, node(api.Call, "I", 2, 1, 0)
			f.Nodes[4].A = 1
		},
		func(f *api.Function) { // another call than the state's
			f.Nodes[4] = node(api.Call, "R", 2, 1, 0)
			f.Nodes[4].A = 2
		},
		func(f *api.Function) { f.Nodes[3] = node(api.Poll, "", 5) },
		func(f *api.Function) { f.Nodes[3] = node(api.Guard, "", 5, 0); f.Nodes[3].N = 1 },
		func(f *api.Function) { f.Nodes[3] = node(api.Out, "", -1, 0) },
		func(f *api.Function) { f.Nodes[3] = node(api.Is, "I", -1, 1); f.Nodes[3].A = 1 },
		func(f *api.Function) { f.Nodes[3] = node(api.Same, "I", -1, 1, 1) },
		func(f *api.Function) { f.Nodes[3] = node(api.Neg, "I", -1, 0) },
		func(f *api.Function) { f.Nodes[3] = node(api.Lt, "I", -1, 0, 0) },
		func(f *api.Function) { f.Nodes[3] = node(api.Null, "R", -1) },
	} {
		f := function()
		change(&f)
		if err := Check(v, f); err != nil {
			t.Error(i, err)
		}
	}
}

func TestEntered(t *testing.T) {
	v := info(t)
	f := api.Function{Entry: 4, Nodes: []api.Node{node(api.Param, "R", -1), node(api.Param, "I", -1), node(api.Return, "", -1, 1)}, Blocks: []api.Block{{Body: []int{0, 1, 2}}}}
	f.Nodes[1].A = 1
	if err := Check(v, f); err != nil {
		t.Error(err)
	}
	for i, change := range []func(f *api.Function){
		func(f *api.Function) { f.Entry = 0 },
		func(f *api.Function) { f.Entry = 5 },
		func(f *api.Function) { f.Entry = 10 },
		func(f *api.Function) { f.Entry = 11 },
		func(f *api.Function) { f.Entry = -1 },
		func(f *api.Function) { f.Method = 3 },
		func(f *api.Function) { f.Nodes[1].A = 0 },
		func(f *api.Function) { f.Nodes[1].A = 2 },
		func(f *api.Function) { f.Nodes[1].A = -1 },
		func(f *api.Function) { f.Nodes[0].A, f.Nodes[1].A = 1, 1 },
		func(f *api.Function) { f.Nodes[0].B = 1 },
	} {
		g := Copy(f)
		change(&g)
		if err := Check(v, g); err != api.ErrNode {
			t.Error(i, err)
		}
	}
	own := api.Function{Method: 2, Nodes: []api.Node{node(api.Param, "R", -1), node(api.Return, "", -1, 0)}, Blocks: []api.Block{{Body: []int{0, 1}}}}
	if err := Check(v, own); err != nil {
		t.Error(err)
	}
	if own.Nodes[0].A = 2; Check(v, own) != api.ErrNode {
		t.Error("a local is no parameter")
	}
}

func TestCheckMany(t *testing.T) {
	v := info(t)
	for i, f := range []api.Function{{}, {Blocks: make([]api.Block, 501)}, {Blocks: make([]api.Block, 1), Nodes: make([]api.Node, api.MaxNodes+1)}, {Blocks: make([]api.Block, 1), States: make([]api.State, api.MaxNodes+1)}} {
		if f.Method = 99; Check(v, f) != api.ErrMany {
			t.Error(i)
		}
	}
	if Check(v, api.Function{Blocks: make([]api.Block, 500), Nodes: make([]api.Node, api.MaxNodes), States: make([]api.State, api.MaxNodes)}) != api.ErrNode {
		t.Error("as many as may be")
	}
}

func TestCheckNodes(t *testing.T) {
	v := info(t)
	for i, change := range []func(f *api.Function){
		// blocks
		func(f *api.Function) { f.Blocks[2].Body = []int{6} },
		func(f *api.Function) { f.Blocks[2].Body = nil },
		func(f *api.Function) { f.Blocks[2].Body = []int{6, 7, 7} },
		func(f *api.Function) { f.Blocks[2].Body = []int{6, -1} },
		func(f *api.Function) { f.Blocks[2].Body = []int{6, 10} },
		func(f *api.Function) { f.Blocks[2].Body = []int{7, 6} },
		func(f *api.Function) { f.Blocks[1].Body = []int{3, 5} },
		func(f *api.Function) { f.Blocks[1].Phis = []int{3}; f.Blocks[1].Body = []int{4, 5} },
		func(f *api.Function) { f.Blocks[1].Succ = []int{3} },
		func(f *api.Function) { f.Blocks[1].Succ = []int{3, 3} },
		func(f *api.Function) { f.Blocks[1].Succ = []int{3, 2, 2} },
		func(f *api.Function) { f.Blocks[2].Succ = []int{4} },
		func(f *api.Function) { f.Blocks[2].Succ = []int{-1} },
		func(f *api.Function) { f.Blocks[3].Succ = []int{1}; f.Blocks[1].Preds = []int{0, 2, 3} },
		func(f *api.Function) { f.Blocks[1].Preds = []int{2, 0} },
		func(f *api.Function) { f.Blocks[1].Preds = []int{0} },
		func(f *api.Function) { f.Blocks[1].Preds = []int{0, 2, 2} },
		func(f *api.Function) {
			f.Blocks[2].Succ = []int{0}
			f.Blocks[0].Preds, f.Blocks[1].Preds = []int{2}, []int{0}
		},
		func(f *api.Function) { // a block that can't be reached
			f.Nodes = append(f.Nodes, node(api.Return, "", -1, 8))
			f.Blocks = append(f.Blocks, api.Block{Body: []int{10}})
		},
		// nodes
		func(f *api.Function) { f.Nodes[8].Kind = "R" },
		func(f *api.Function) { f.Nodes[8].Kind = "" },
		func(f *api.Function) { f.Nodes[8].A = 1 },
		func(f *api.Function) { f.Nodes[8].B = 1 },
		func(f *api.Function) { f.Nodes[8].State = 0 },
		func(f *api.Function) { f.Nodes[8].State = -2 },
		func(f *api.Function) { f.Nodes[8].Args = []int{0} },
		func(f *api.Function) { f.Nodes[0].N = 1 },
		func(f *api.Function) { f.Nodes[0].State = -1 },
		func(f *api.Function) { f.Nodes[0].State = 6 },
		func(f *api.Function) { f.Nodes[1].A = 2 },
		func(f *api.Function) { f.Nodes[4].B = 2 },
		func(f *api.Function) { f.Nodes[4].B = 1 },
		func(f *api.Function) { f.Nodes[4].Args = []int{0, 0} },
		func(f *api.Function) { f.Nodes[4].Args = []int{1} },
		func(f *api.Function) { f.Nodes[4].Args = []int{1, 10} },
		func(f *api.Function) { f.Nodes[4].Args = []int{1, -1} },
		func(f *api.Function) { f.Nodes[4].Args = []int{1, 4} },
		func(f *api.Function) { f.Nodes[4].Kind = "I" },
		func(f *api.Function) { f.Nodes[3] = node(api.Call, "I", 2, 1, 0) },
		func(f *api.Function) { f.Nodes[3] = node(api.Call, "I", 2, 1, 0); f.Nodes[3].A = 3 },
		func(f *api.Function) { f.Nodes[3] = node(api.Guard, "", 5, 0); f.Nodes[3].N = 2 },
		func(f *api.Function) { f.Nodes[3] = node(api.Guard, "", -1, 0) },
		func(f *api.Function) { f.Nodes[3] = node(api.Guard, "", 5, 1) },
		func(f *api.Function) { f.Nodes[3] = node(api.Add, "I", -1, 0) },
		func(f *api.Function) { f.Nodes[3] = node(api.Div, "I", -1, 0, 0) },
		func(f *api.Function) { f.Nodes[3] = node(api.Array, "R", 2, 0); f.Nodes[3].A = 2 },
		func(f *api.Function) { f.Nodes[3] = node(api.Load, "R", -1) },
		func(f *api.Function) { f.Nodes[3] = node(api.Jump, "", -1) },
		func(f *api.Function) { f.Nodes[3] = node(api.Ret, "", -1, 0) },
		func(f *api.Function) { f.Nodes[3] = node(0, "", -1) },
		func(f *api.Function) { f.Nodes[3] = node(48, "", -1) },
		func(f *api.Function) { f.Nodes[3] = node(api.Param, "R", -1) },
		func(f *api.Function) { f.Nodes[9].Args = nil },
		func(f *api.Function) { f.Nodes[9].Args = []int{1} },
		func(f *api.Function) { f.Nodes[7].N = 1 },
		// order
		func(f *api.Function) { f.Nodes[5].Args = []int{8} },
		func(f *api.Function) {
			f.Nodes[9].Args = []int{0}
			f.Blocks[0].Body = []int{1, 2}
			f.Blocks[2].Body = []int{0, 6, 7}
		},
		func(f *api.Function) { f.Nodes[3] = node(api.Neg, "I", -1, 3) },
	} {
		f := function()
		f.States[5].PC = 99 // what states say matters no more
		change(&f)
		if err := Check(v, f); err != api.ErrNode {
			t.Error(i, err)
		}
	}
}

func TestPhis(t *testing.T) {
	v := info(t)
	phi := func(kind string, args ...int) api.Function {
		f := function()
		f.Nodes = append(f.Nodes, node(api.Phi, kind, -1, args...))
		f.Blocks[1].Phis = []int{10}
		return f
	}
	for i, x := range []struct {
		f    api.Function
		want error
	}{
		{phi("I", 0, 0), nil}, {phi("I", 0, 10), nil}, {phi("R", 1, 1), nil},
		{phi("I", 10, 0), api.ErrNode}, {phi("I", 0), api.ErrNode}, {phi("I", 0, 0, 0), api.ErrNode}, {phi("I", 0, 8), api.ErrNode}, {phi("I", 0, 1), api.ErrNode}, {phi("", 3, 3), api.ErrNode}, {phi("X", 3, 3), api.ErrNode},
	} {
		if err := Check(v, x.f); err != x.want {
			t.Error(i, err)
		}
	}
	f := phi("I", 0, 0)
	f.Nodes[10].N = 1
	if Check(v, f) != api.ErrNode {
		t.Error("a number")
	}
	f = phi("I", 0, 0)
	f.Blocks[1].Phis, f.Blocks[1].Body = nil, []int{10, 3, 4, 5}
	if Check(v, f) != api.ErrNode {
		t.Error("a phi in a body")
	}
}

func TestCheckStates(t *testing.T) {
	v := info(t)
	for i, change := range []func(f *api.Function){
		func(f *api.Function) { f.States[0].Method = 1 },
		func(f *api.Function) { f.States[0].Method = -1 },
		func(f *api.Function) { f.States[0].Method = 3 },
		func(f *api.Function) { f.States[0].PC = 1 },
		func(f *api.Function) { f.States[5].PC = 10 },
		func(f *api.Function) { f.States[5].PC = -1 },
		func(f *api.Function) { f.States[0].Locals = nil },
		func(f *api.Function) { f.States[0].Locals = []int{-1, -1, -1} },
		func(f *api.Function) { f.States[0].Stack = []int{0} },
		func(f *api.Function) { f.States[0].Up = 0 },
		func(f *api.Function) { f.States[1].Up = -2 },
		func(f *api.Function) { f.States[4].Up = 4 },
		func(f *api.Function) { f.States[4].Up = 5 },
		func(f *api.Function) { f.States[4].Up = 2 },
		func(f *api.Function) { f.States[4].Up = -1 },
		func(f *api.Function) { f.States[4].Up = 1 },
		func(f *api.Function) { f.States[1].Locals[0] = 0 },
		func(f *api.Function) { f.States[1].Locals[1] = -1 },
		func(f *api.Function) { f.States[1].Locals[1] = 8 },
		func(f *api.Function) { f.States[2].Locals[1] = 1 },
		func(f *api.Function) { f.States[2].Locals[1] = 10 },
		func(f *api.Function) { f.States[2].Stack[0] = -1 },
		func(f *api.Function) { f.States[2].Stack[0] = -2 },
		func(f *api.Function) { f.States[3].Locals[0] = -1 },
		func(f *api.Function) { f.States[3].Stack = []int{1, 0} },
		func(f *api.Function) { f.States[3].Locals[0] = -2 },
		func(f *api.Function) { f.States[4].Locals[0] = 1 },
		func(f *api.Function) { f.States[4].Stack[1] = 8 },
		func(f *api.Function) { f.States[4].Virtuals = []api.Virtual{{Class: 1}} },
		func(f *api.Function) { f.Nodes[3].Op = api.Poll },
		func(f *api.Function) { f.Nodes[6].State = 2 },
		func(f *api.Function) { f.Nodes[3].State = 5 },
		func(f *api.Function) { f.Nodes[3] = node(api.Guard, "", 2, 0) },
		func(f *api.Function) { f.Nodes[1].State = 0 },
		func(f *api.Function) { f.States[1].Locals[1] = math.MinInt },
		func(f *api.Function) { f.States[2].Locals[0] = math.MinInt },
	} {
		f := function()
		change(&f)
		if err := Check(v, f); err != api.ErrState {
			t.Error(i, err)
		}
	}
}

func TestCheckVirtuals(t *testing.T) {
	v := info(t)
	for i, change := range []func(f *api.Function){
		func(f *api.Function) { f.States[5].Locals[0] = -4 },
		func(f *api.Function) { f.States[5].Locals[0] = -2 },
		func(f *api.Function) { f.States[5].Locals[1] = -3 },
		func(f *api.Function) { f.States[5].Virtuals[1].Fields[1] = 1 },
		func(f *api.Function) { f.States[5].Virtuals[1].Fields[1] = -1 },
		func(f *api.Function) { f.States[5].Virtuals[1].Fields[0] = -2 },
		func(f *api.Function) { f.States[5].Virtuals[1].Fields[0] = 1 },
		func(f *api.Function) { f.States[5].Virtuals[1].Fields[0] = 8 },
		func(f *api.Function) { f.States[5].Virtuals[1].Fields = []int{0} },
		func(f *api.Function) { f.States[5].Virtuals[1].Class = 2 },
		func(f *api.Function) { f.States[5].Virtuals[0].Class = -1 },
		func(f *api.Function) { f.States[5].Virtuals = append(f.States[5].Virtuals, api.Virtual{Class: 1}) },
		func(f *api.Function) { f.States[4].Virtuals = nil },
		func(f *api.Function) { f.States[4].Virtuals[0].Fields[0] = 5 },
	} {
		f := virtual()
		change(&f)
		if err := Check(v, f); err != api.ErrState {
			t.Error(i, err)
		}
	}
}

// TestNoPanic changes each number to what may come.
func TestNoPanic(t *testing.T) {
	v := info(t)
	for _, x := range []int{-3, -2, -1, 0, 1, 2, 3, 5, 9, 10, 40, 41, math.MaxInt, math.MinInt} {
		for k := range 400 {
			f := virtual()
			numbers := numbersOf(&f)
			if k >= len(numbers) {
				break
			}
			*numbers[k] = x
			Check(v, f)
			Uses(f)
			Graph(f)
			Text(f)
			Size(f)
			if !Same(f, Copy(f)) {
				t.Fatal(x, k)
			}
		}
	}
	if Uses(api.Function{}) != nil && len(Uses(api.Function{})) != 0 || Size(api.Function{}) != 0 {
		t.Error("nothing")
	}
}

// numbersOf is where all whole numbers of a function lie.
func numbersOf(f *api.Function) []*int {
	out := []*int{&f.Method, &f.Entry}
	add := func(l []int) {
		for i := range l {
			out = append(out, &l[i])
		}
	}
	for n := range f.Nodes {
		x := &f.Nodes[n]
		out = append(out, &x.Op, &x.A, &x.B, &x.State)
		add(x.Args)
	}
	for b := range f.Blocks {
		add(f.Blocks[b].Body)
		add(f.Blocks[b].Succ)
		add(f.Blocks[b].Preds)
	}
	for s := range f.States {
		x := &f.States[s]
		out = append(out, &x.Method, &x.PC, &x.Up)
		add(x.Locals)
		add(x.Stack)
		for i := range x.Virtuals {
			out = append(out, &x.Virtuals[i].Class)
			add(x.Virtuals[i].Fields)
		}
	}
	return out
}

func TestUses(t *testing.T) {
	if got := Uses(function()); !slices.Equal(got, []int{10, 6, 0, 0, 0, 0, 0, 0, 1, 0}) {
		t.Error(got)
	}
	f := virtual()
	f.Nodes[3] = node(api.Poll, "", 5) // a state that two nodes have
	if got := Uses(f); !slices.Equal(got, []int{2 + 1 + 3 + 3 + 4, 2, 0, 0, 0, 0, 0, 0, 1, 0}) {
		t.Error(got)
	}
}

func TestTextSameCopy(t *testing.T) {
	base := virtual()
	text := Text(base)
	n := len(numbersOf(&base))
	seen := map[string]int{text: -1}
	for k := range n {
		f := virtual()
		*numbersOf(&f)[k] += 1000
		if prev, is := seen[Text(f)]; is || Same(f, base) {
			t.Error("the same text", k, prev)
		}
		seen[Text(f)] = k
	}
	kinds := virtual()
	kinds.Nodes[0].Kind = "I 0 args( )"
	longer := virtual()
	longer.Nodes[8].N = 1
	phis := virtual()
	phis.Blocks[0].Phis, phis.Blocks[0].Body = []int{0}, []int{1, 2}
	for i, f := range []api.Function{kinds, longer, phis} {
		if Same(f, base) || Text(f) == text {
			t.Error(i)
		}
	}
	f := virtual()
	g := Copy(f)
	for _, x := range numbersOf(&g) {
		*x += 7
	}
	if Text(f) != text {
		t.Error("memory is shared")
	}
	if !Same(api.Function{Nodes: []api.Node{}}, api.Function{}) {
		t.Error("none and nil")
	}
	gr := Graph(f)
	gr[1][0] = 9
	if f.Blocks[1].Succ[0] != 3 {
		t.Error("memory is shared")
	}
	if Size(f) != 10 || strconv.Itoa(len(Graph(f))) != "4" {
		t.Error(Size(f))
	}
}
