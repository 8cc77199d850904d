package bits

import (
	"math"
	"slices"
	"testing"
)

func of(n int, l ...int) *Set {
	s := New(n)
	for _, i := range l {
		s.Add(i)
	}
	return s
}

func TestAddDropHas(t *testing.T) {
	s := New(70)
	for i, x := range []struct {
		n    int
		want bool
	}{{3, true}, {3, false}, {69, true}, {70, false}, {-1, false}, {math.MaxInt, false}, {math.MinInt, false}, {64, true}, {63, true}} {
		if s.Add(x.n) != x.want {
			t.Error(i, x.n)
		}
	}
	if got := s.List(); !slices.Equal(got, []int{3, 63, 64, 69}) || s.Len() != 4 {
		t.Error(got)
	}
	if !s.Drop(63) || s.Drop(63) || s.Drop(70) || s.Drop(-1) || s.Has(63) || !s.Has(64) || s.Has(70) || s.Has(-5) {
		t.Error("drop")
	}
}

func TestBounds(t *testing.T) {
	for _, n := range []int{0, -1, math.MinInt} {
		if s := New(n); s.Add(0) || s.Len() != 0 || s.List() != nil {
			t.Error(n)
		}
	}
	for _, n := range []int{1 << 20, 1<<20 + 1, math.MaxInt} {
		s := New(n)
		if !s.Add(1<<20-1) || s.Add(1<<20) || s.Len() != 1 {
			t.Error(n)
		}
	}
}

func TestEach(t *testing.T) {
	s := of(200, 1, 64, 65, 199)
	var got []int
	for i := range s.Each() {
		got = append(got, i)
		if i == 65 {
			break
		}
	}
	if !slices.Equal(got, []int{1, 64, 65}) {
		t.Error(got)
	}
}

func TestJoin(t *testing.T) {
	s, big := of(70, 3), of(500, 3, 69, 70, 100, 400)
	if !s.Join(big) || s.Join(big) || !slices.Equal(s.List(), []int{3, 69}) {
		t.Error(s.List())
	}
	if s.Join(of(500, 70, 71)) || s.Len() != 2 {
		t.Error("beyond the bound")
	}
	if !big.Join(of(10, 9)) || big.Join(big) || !big.Has(9) || !big.Has(400) {
		t.Error(big.List())
	}
}

func TestLess(t *testing.T) {
	s := of(200, 1, 2, 150)
	s.Less(of(5, 2, 4))
	if !slices.Equal(s.List(), []int{1, 150}) {
		t.Error(s.List())
	}
	s.Less(of(1000, 150, 900))
	if !slices.Equal(s.List(), []int{1}) {
		t.Error(s.List())
	}
	s.Less(s)
	if s.Len() != 0 {
		t.Error(s.List())
	}
}

func TestSameClone(t *testing.T) {
	a, b := of(70, 3, 69), of(700, 3, 69)
	if !a.Same(b) || !b.Same(a) {
		t.Error("same")
	}
	b.Add(600)
	if a.Same(b) || b.Same(a) {
		t.Error("unlike")
	}
	c := a.Clone()
	if !c.Same(a) || c.Add(70) || !c.Add(5) || a.Has(5) {
		t.Error("clone")
	}
	l, m := a.List(), a.List()
	l[0] = 99
	if m[0] != 3 || !a.Has(3) {
		t.Error("memory is shared")
	}
}
