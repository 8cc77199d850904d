package arena

import (
	"math"
	"slices"
	"testing"

	"overdrive/api"
)

func of(t *testing.T, l ...int64) *Arena {
	t.Helper()
	a, err := New(len(l))
	if err != nil {
		t.Fatal(err)
	}
	for i, v := range l {
		if !a.Store(i, v) {
			t.Fatal(i)
		}
	}
	return a
}

func list(a *Arena) []int64 {
	var l []int64
	for i := range a.Len() {
		v, _ := a.Load(i)
		l = append(l, v)
	}
	return l
}

func TestNew(t *testing.T) {
	for _, n := range []int{-1, api.MaxWords + 1, math.MaxInt, math.MinInt} {
		if a, err := New(n); a != nil || err != api.ErrLimit {
			t.Error(n)
		}
	}
	for _, n := range []int{0, 1, api.MaxWords} {
		a, err := New(n)
		if err != nil || a.Len() != n || a.Store(n, 1) || a.Store(-1, 1) {
			t.Error(n)
		}
		if slices.ContainsFunc(list(a), func(v int64) bool { return v != 0 }) {
			t.Error("not 0")
		}
		for _, at := range []int{n, -1, math.MaxInt} {
			if v, is := a.Load(at); v != 0 || is {
				t.Error(at)
			}
		}
	}
}

func TestCopy(t *testing.T) {
	for i, x := range []struct {
		to, from, n int
		is          bool
		want        []int64
	}{
		{1, 0, 3, true, []int64{1, 1, 2, 3}}, {0, 1, 3, true, []int64{2, 3, 4, 4}}, {0, 0, 4, true, []int64{1, 2, 3, 4}},
		{4, 0, 0, true, []int64{1, 2, 3, 4}}, {0, 4, 0, true, []int64{1, 2, 3, 4}},
		{2, 0, 3, false, []int64{1, 2, 3, 4}}, {0, 2, 3, false, []int64{1, 2, 3, 4}}, {0, 0, -1, false, []int64{1, 2, 3, 4}}, {-1, 0, 1, false, []int64{1, 2, 3, 4}}, {0, -1, 1, false, []int64{1, 2, 3, 4}},
		{5, 0, 0, false, []int64{1, 2, 3, 4}}, {0, 0, math.MaxInt, false, []int64{1, 2, 3, 4}}, {math.MaxInt, 0, 1, false, []int64{1, 2, 3, 4}}, {math.MinInt, math.MinInt, math.MinInt, false, []int64{1, 2, 3, 4}},
	} {
		a := of(t, 1, 2, 3, 4)
		if is := a.Copy(x.to, x.from, x.n); is != x.is || !slices.Equal(list(a), x.want) {
			t.Error(i, is, list(a))
		}
	}
}

func TestClear(t *testing.T) {
	for i, x := range []struct {
		from, to int
		want     []int64
	}{
		{1, 3, []int64{1, 0, 0, 4}}, {-5, 2, []int64{0, 0, 3, 4}}, {3, 99, []int64{1, 2, 3, 0}}, {2, 2, []int64{1, 2, 3, 4}}, {3, 1, []int64{1, 2, 3, 4}}, {9, 12, []int64{1, 2, 3, 4}}, {math.MinInt, math.MaxInt, []int64{0, 0, 0, 0}},
	} {
		a := of(t, 1, 2, 3, 4)
		if a.Clear(x.from, x.to); !slices.Equal(list(a), x.want) {
			t.Error(i, list(a))
		}
	}
}

func TestSpace(t *testing.T) {
	s := Space{From: 2, To: 5, Top: 2}
	if s.Room() != 3 || s.Has(2) {
		t.Error(s)
	}
	for _, n := range []int{0, -1, 4, math.MaxInt, math.MinInt} {
		if at, is := s.Take(n); at != 0 || is {
			t.Error(n)
		}
	}
	if at, is := s.Take(2); at != 2 || !is || s.Room() != 1 || !s.Has(2) || !s.Has(3) || s.Has(4) || s.Has(1) {
		t.Error(at, s)
	}
	if at, is := s.Take(2); at != 0 || is {
		t.Error(at)
	}
	if at, is := s.Take(1); at != 4 || !is || s.Room() != 0 {
		t.Error(at)
	}
	if s.Reset(); s != (Space{From: 2, To: 5, Top: 2}) {
		t.Error(s)
	}
}

func TestPack(t *testing.T) {
	seen := map[int64]int{}
	for class := -2; class < api.MaxClasses; class++ {
		for _, n := range []int{0, 1, 2, 50, 1<<20 - 1, 1 << 20} {
			w := Pack(class, n)
			seen[w]++
			if c, m, is := Unpack(w); c != class || m != n || !is || seen[w] > 1 || w == -1 {
				t.Error(class, n, w)
			}
		}
	}
	for _, x := range [][2]int{{-3, 0}, {api.MaxClasses, 0}, {0, -1}, {0, 1<<20 + 1}, {math.MaxInt, math.MaxInt}, {math.MinInt, math.MinInt}} {
		if w := Pack(x[0], x[1]); w != -1 {
			t.Error(x, w)
		}
	}
	for _, w := range []int64{-1, math.MinInt64, math.MaxInt64, 1<<20 + 1, 14 << 21, 1 << 40} {
		if c, n, is := Unpack(w); is && Pack(c, n) != w || !is && (c != 0 || n != 0) || is {
			t.Error(w, c, n)
		}
	}
}
