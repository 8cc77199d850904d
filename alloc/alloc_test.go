package alloc

import (
	"math"
	"reflect"
	"slices"
	"testing"

	"overdrive/api"
	"overdrive/build"
	"overdrive/escape"
	"overdrive/fold"
	"overdrive/gvn"
	"overdrive/inline"
	"overdrive/sample"
	"overdrive/ssa"
	"overdrive/verify"
)

func node(op int, kind string, args ...int) api.Node {
	return api.Node{Op: op, Kind: kind, State: -1, Args: args}
}

func tiny(t *testing.T) (*verify.Info, api.Function) {
	t.Helper()
	v, err := verify.Of(api.Program{Methods: []api.Method{{Ret: "I", Code: []api.Instr{{Op: api.Const}, {Op: api.Ret}}}}})
	if err != nil {
		t.Fatal(err)
	}
	f := api.Function{Nodes: []api.Node{node(api.Const, "I"), node(api.Const, "I"), node(api.Add, "I", 0, 1), node(api.Return, "", 2)}, Blocks: []api.Block{{Body: []int{0, 1, 2, 3}}}}
	return v, f
}

func TestExample(t *testing.T) {
	v, f := tiny(t)
	r, err := Assign(v, f, 2)
	if err != nil || r.Spills != 0 || r.Places[0] == r.Places[1] || r.Places[3] != -1000 || !slices.Equal(r.Order, []int{0}) {
		t.Error(r, err)
	}
	if r, err := Assign(v, f, 1); err != nil || r.Spills != 1 || min(r.Places[0], r.Places[1]) != -1 || max(r.Places[0], r.Places[1]) != 0 {
		t.Error(r, err)
	}
}

func TestErrors(t *testing.T) {
	v, f := tiny(t)
	for _, regs := range []int{0, -1, 17, math.MaxInt, math.MinInt} {
		if r, err := Assign(v, api.Function{}, regs); err != api.ErrLimit || !reflect.DeepEqual(r, Result{}) {
			t.Error(regs, err)
		}
	}
	for _, regs := range []int{1, 16} {
		if _, err := Assign(v, f, regs); err != nil {
			t.Error(regs, err)
		}
		if r, err := Assign(v, api.Function{}, regs); err != api.ErrMany || !reflect.DeepEqual(r, Result{}) {
			t.Error(regs, err)
		}
	}
	f.Nodes[2].Args[1] = 2
	if _, err := Assign(v, f, 1); err != api.ErrNode {
		t.Error(err)
	}
}

func TestLive(t *testing.T) {
	f := api.Function{
		Nodes: []api.Node{
			node(api.Const, "I"), node(api.Const, "I"), node(api.Goto, ""),
			node(api.Phi, "I", 0, 5), node(api.Phi, "I", 1, 3), node(api.Add, "I", 3, 0), node(api.Branch, "", 5),
			node(api.Goto, ""), {Op: api.Return, State: 1, Args: []int{4}},
		},
		Blocks: []api.Block{
			{Body: []int{0, 1, 2}, Succ: []int{1}},
			{Phis: []int{3, 4}, Body: []int{5, 6}, Succ: []int{2, 3}, Preds: []int{0, 2}},
			{Body: []int{7}, Succ: []int{1}, Preds: []int{1}},
			{Body: []int{8}, Preds: []int{1}},
		},
		States: []api.State{{Up: -1, Stack: []int{1, -1}}, {Up: 0, Locals: []int{-2}, Virtuals: []api.Virtual{{Fields: []int{3}}}}},
	}
	for b, want := range [][2][]int{{nil, {0, 1}}, {{0, 1}, {0, 1, 3, 4, 5}}, {{0, 1, 3, 5}, {0, 1, 3, 5}}, {{1, 3, 4}, nil}} {
		begin, end := Live(f, b)
		if !slices.Equal(begin, want[0]) || !slices.Equal(end, want[1]) {
			t.Error(b, begin, end)
		}
	}
	for _, b := range []int{-1, 4, math.MaxInt} {
		if begin, end := Live(f, b); begin != nil || end != nil {
			t.Error(b)
		}
	}
	bad := api.Function{Nodes: []api.Node{node(api.Phi, "I", -1, 9), node(api.Add, "I", 77)}, Blocks: []api.Block{{Phis: []int{0, 5, -1}, Body: []int{1, -7, 99}, Succ: []int{-1, 5, 0}, Preds: []int{0, -3, 7}}}}
	Live(bad, 0)
}

// needs tells by its words what is needed: a way forward on which a node is asked for ahead of itself.
func needs(f api.Function, x, b, from int) bool {
	seen := map[int]int{}
	var walk func(b, k int) bool
	walk = func(b, k int) bool {
		for ; k < len(f.Blocks[b].Body); k++ {
			n := f.Blocks[b].Body[k]
			if slices.Contains(f.Nodes[n].Args, x) {
				return true
			}
			for named := range ssa.Named(f, n) {
				if named == x {
					return true
				}
			}
			if n == x {
				return false
			}
		}
		for _, s := range f.Blocks[b].Succ {
			p := slices.Index(f.Blocks[s].Preds, b)
			for _, phi := range f.Blocks[s].Phis {
				if f.Nodes[phi].Args[p] == x {
					return true
				}
			}
			if seen[s]++; seen[s] == 1 && !slices.Contains(f.Blocks[s].Phis, x) && walk(s, 0) {
				return true
			}
		}
		return false
	}
	return walk(b, from)
}

// apart asks that all that is needed, or made, at once lies at unlike places.
func apart(t *testing.T, f api.Function, r Result, list []int) {
	t.Helper()
	at := map[int]int{}
	for _, n := range list {
		if m, is := at[r.Places[n]]; is && m != n {
			t.Fatal("one place", m, n)
		}
		at[r.Places[n]] = n
	}
}

func check(t *testing.T, f api.Function, r Result, regs int) {
	t.Helper()
	all := slices.Clone(r.Order)
	slices.Sort(all)
	for b := range f.Blocks {
		if all[b] != b || r.Order[0] != 0 || len(all) != len(f.Blocks) {
			t.Fatal("order", r.Order)
		}
		begin, end := Live(f, b)
		apart(t, f, r, append(slices.Clone(begin), f.Blocks[b].Phis...))
		apart(t, f, r, end)
		for x := range f.Nodes {
			if (needs(f, x, b, 0) && !slices.Contains(f.Blocks[b].Phis, x)) != slices.Contains(begin, x) {
				t.Fatal("live", b, x)
			}
		}
		for k, n := range f.Blocks[b].Body {
			var list []int
			for x := range f.Nodes {
				if x == n && f.Nodes[n].Kind != "" || needs(f, x, b, k+1) && x != n {
					list = append(list, x)
				}
			}
			apart(t, f, r, list)
		}
	}
	spills := map[int]int{}
	for n, p := range r.Places {
		switch {
		case f.Nodes[n].Kind == "":
			if p != -1000 {
				t.Fatal("a place of nothing", n)
			}
		case p < 0:
			spills[-1-p]++
			if p < -r.Spills {
				t.Fatal("no such spill", n, p)
			}
		case p >= regs:
			t.Fatal("no such register", n, p)
		}
	}
	if len(spills) != r.Spills {
		t.Fatal("spills", r.Spills, spills)
	}
}

// most is the most nodes that are needed, or made, at once in a function of one block.
func most(f api.Function) int {
	most := 0
	for k, n := range f.Blocks[0].Body {
		made := 0
		for x := range f.Nodes {
			if x == n && f.Nodes[n].Kind != "" || x != n && needs(f, x, 0, k+1) && slices.Contains(f.Blocks[0].Body[:k], x) {
				made++
			}
		}
		most = max(most, made)
	}
	return most
}

func TestAssign(t *testing.T) {
	single, spilled := 0, 0
	for seed := range uint64(60) {
		v := sample.Program(seed)
		for m := range v.Program().Methods {
			f, err := build.Build(v, m, 0)
			if err != nil {
				t.Fatal(err)
			}
			if seed%2 == 0 {
				f, _ = inline.Pass(v, f, 150)
				f, _ = fold.Pass(v, f)
				f, _ = gvn.Same(v, f)
				f, _ = escape.Pass(v, f)
			}
			if len(f.Nodes) > 150 {
				continue
			}
			for _, regs := range []int{1, 3, 16} {
				r, err := Assign(v, f, regs)
				if err != nil {
					t.Fatal(err)
				}
				check(t, f, r, regs)
				if r.Spills > 0 {
					spilled++
				}
			}
			if k := most(f); len(f.Blocks) == 1 && k >= 1 && k <= 16 {
				single++
				if r, _ := Assign(v, f, k); r.Spills != 0 {
					t.Fatal("spills without need", k, r)
				}
			}
		}
	}
	if single < 10 || spilled < 50 {
		t.Error(single, spilled)
	}
}
