package flow

import (
	"reflect"
	"slices"
	"testing"

	"overdrive/api"
)

func in(op, a int) api.Instr { return api.Instr{Op: op, A: a} }

func TestOf(t *testing.T) {
	for i, x := range []struct {
		code []api.Instr
		want []Block
	}{
		{nil, []Block{}},
		{[]api.Instr{in(api.Load, 0), in(api.Zero, 3), in(api.Const, 0), in(api.Ret, 0)}, []Block{{0, 2, []int{1, 2}, nil}, {2, 3, []int{2}, []int{0}}, {3, 4, nil, []int{0, 1}}}},
		{[]api.Instr{in(api.Const, 0), in(api.Ret, 0)}, []Block{{From: 0, To: 2}}},
		{[]api.Instr{in(api.Jump, 0)}, []Block{{0, 1, []int{0}, []int{0}}}},
		{[]api.Instr{in(api.Zero, 1), in(api.Const, 0)}, []Block{{0, 1, []int{1}, nil}, {1, 2, nil, []int{0}}}},
		{[]api.Instr{in(api.Jump, 2), in(api.Jump, 0), in(api.Zero, 1), in(api.Ret, 0), in(api.Jump, 3)}, []Block{
			{0, 1, []int{2}, []int{1}}, {1, 2, []int{0}, []int{2}}, {2, 3, []int{1, 3}, []int{0}}, {3, 4, nil, []int{2, 4}}, {4, 5, []int{3}, nil}}},
	} {
		if got := Of(api.Method{Code: x.code}); !reflect.DeepEqual(got, x.want) {
			t.Error(i, got)
		}
	}
}

func TestOrder(t *testing.T) {
	for i, x := range []struct {
		g, loops [][]int
		order    []int
	}{
		{[][]int{{1, 2}, {3}, {3}, {0}}, [][]int{{3, 0}}, []int{0, 2, 1, 3}},
		{[][]int{{2, 1}, {3}, {3}, {}}, nil, []int{0, 1, 2, 3}},
		{[][]int{{1, 1, 0, 7, -1, 0}, {0, 1}, {0}}, [][]int{{1, 0}, {1, 1}, {0, 0}}, []int{0, 1}},
		{nil, nil, nil},
		{[][]int{{}}, nil, []int{0}},
		{[][]int{{5, -3}, {0}}, nil, []int{0}},
	} {
		if got := Order(x.g); !slices.Equal(got, x.order) {
			t.Error(i, got)
		}
		if got := Loops(x.g); !slices.EqualFunc(got, x.loops, slices.Equal) {
			t.Error(i, got)
		}
	}
}

func TestReachPreds(t *testing.T) {
	g := [][]int{{2, 2, 9}, {0, 2}, {2, 0, -1}, {3}}
	if got := Reach(g); !slices.Equal(got, []bool{true, false, true, false}) {
		t.Error(got)
	}
	want := [][]int{{1, 2}, nil, {0, 1, 2}, {3}}
	got := Preds(g)
	if !slices.EqualFunc(got, want, slices.Equal) {
		t.Error(got)
	}
	got[0][0] = 7
	if Preds(g)[0][0] != 1 {
		t.Error("memory is shared")
	}
	if len(Reach(nil)) != 0 || len(Preds(nil)) != 0 {
		t.Error("nothing")
	}
	if got := Preds([][]int{{1, 0, 1}, {1}}); !slices.EqualFunc(got, [][]int{{0}, {0, 1}}, slices.Equal) {
		t.Error(got)
	}
}

// TestDeep walks a graph as deep as it is long.
func TestDeep(t *testing.T) {
	g := make([][]int, 1<<16)
	for i := range g {
		g[i] = []int{i + 1, i}
	}
	o := Order(g)
	if len(o) != len(g) || o[len(g)-1] != len(g)-1 || len(Loops(g)) != len(g) {
		t.Error(len(o))
	}
}
