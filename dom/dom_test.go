package dom

import (
	"math"
	"slices"
	"sync"
	"testing"

	"overdrive/flow"
)

// above tells by its words whether a stands above b: without a, b can't be reached.
func above(g [][]int, a, b int) bool {
	reach := flow.Reach(g)
	if !reach[a] || !reach[b] {
		return false
	}
	if a == b || a == 0 {
		return true
	}
	cut := slices.Clone(g)
	for i := range cut {
		cut[i] = slices.DeleteFunc(slices.Clone(cut[i]), func(x int) bool { return x == a })
	}
	return !flow.Reach(cut)[b]
}

func check(t *testing.T, g [][]int) {
	t.Helper()
	tree := Of(g)
	reach := flow.Reach(g)
	for b := range g {
		depth, idom := 0, -1
		for a := range g {
			is := above(g, a, b)
			if tree.Above(a, b) != is {
				t.Fatal(g, "above", a, b)
			}
			if is && a != b {
				depth++
				if idom < 0 || above(g, idom, a) {
					idom = a
				}
			}
		}
		if tree.Idom(b) != idom || tree.Depth(b) != depth || tree.Idoms()[b] != idom {
			t.Fatal(g, b, tree.Idom(b), idom, tree.Depth(b), depth)
		}
		if idom >= 0 && !slices.Contains(tree.Kids(idom), b) || !slices.IsSorted(tree.Kids(b)) {
			t.Fatal(g, "kids", b)
		}
		checkFrontier(t, g, tree, b, reach)
	}
}

func checkFrontier(t *testing.T, g [][]int, tree *Tree, i int, reach []bool) {
	t.Helper()
	var want []int
	for y := range g {
		if !reach[y] || above(g, i, y) && i != y {
			continue
		}
		for p, l := range g {
			if slices.Contains(l, y) && above(g, i, p) {
				want = append(want, y)
				break
			}
		}
	}
	if got := tree.Frontier(i); !slices.Equal(got, want) {
		t.Fatal(g, "frontier", i, got, want)
	}
}

func TestExamples(t *testing.T) {
	tree := Of([][]int{{1, 2}, {3}, {3}, {}})
	if tree.Idom(3) != 0 || !slices.Equal(tree.Frontier(1), []int{3}) || tree.Depth(3) != 1 || !slices.Equal(tree.Kids(0), []int{1, 2, 3}) {
		t.Error("diamond")
	}
	tree = Of([][]int{{1}, {0, 1}})
	if !slices.Equal(tree.Frontier(1), []int{0, 1}) || !slices.Equal(tree.Frontier(0), []int{0}) {
		t.Error("loops", tree.Frontier(0), tree.Frontier(1))
	}
}

func TestAgainstWords(t *testing.T) {
	seed := uint64(1)
	next := func(n int) int {
		seed = seed*6364136223846793005 + 1442695040888963407
		return int(seed>>33) % n
	}
	for range 400 {
		n := 1 + next(9)
		g := make([][]int, n)
		for i := range g {
			for range next(4) {
				g[i] = append(g[i], next(n+2)-1)
			}
		}
		check(t, g)
	}
}

func TestEdges(t *testing.T) {
	for _, g := range [][][]int{nil, {{}}, {{0}}, {{}, {0, 1}}} {
		check(t, g)
	}
	tree := Of([][]int{{1}, {}, {1}})
	for _, i := range []int{-1, 3, math.MaxInt} {
		if tree.Idom(i) != -1 || tree.Above(0, i) || tree.Above(i, 0) || tree.Kids(i) != nil || tree.Depth(i) != 0 || tree.Frontier(i) != nil {
			t.Error(i)
		}
	}
	if tree.Idom(2) != -1 || tree.Above(2, 2) || tree.Frontier(2) != nil || tree.Depth(2) != 0 {
		t.Error("what can't be reached")
	}
}

func TestMost(t *testing.T) {
	if Most() != 2000 {
		t.Error(Most())
	}
	g := make([][]int, 2005)
	for i := range g {
		g[i] = []int{i + 1, 0}
	}
	tree := Of(g)
	if len(tree.Idoms()) != 2000 || tree.Depth(1999) != 1999 || tree.Idom(2000) != -1 || tree.Above(0, 2000) || !slices.Equal(tree.Frontier(1999), []int{0}) {
		t.Error("the first 2000")
	}
}

func TestNewMemory(t *testing.T) {
	tree := Of([][]int{{1, 2}, {3}, {3}, {}})
	for _, f := range []func() []int{func() []int { return tree.Kids(0) }, func() []int { return tree.Frontier(1) }, tree.Idoms} {
		f()[0] = 77
		if f()[0] == 77 {
			t.Error("memory is shared")
		}
	}
}

func TestTogether(t *testing.T) {
	tree := Of([][]int{{1, 2}, {3}, {3}, {0}})
	var w sync.WaitGroup
	for range 8 {
		w.Go(func() {
			if !slices.Equal(tree.Frontier(1), []int{3}) || !tree.Above(0, 3) {
				t.Error("together")
			}
		})
	}
	w.Wait()
}
