package heap

import (
	"math"
	"reflect"
	"slices"
	"testing"

	"overdrive/api"
)

func classes() api.Program {
	return api.Program{Classes: []api.Class{{Fields: "IR"}, {}, {Fields: "RRI"}}}
}

func of(t *testing.T, limit, nursery int) *Heap {
	t.Helper()
	h, err := New(classes(), limit, nursery)
	if err != nil {
		t.Fatal(err)
	}
	return h
}

func room(t *testing.T, h *Heap, young, old int) {
	t.Helper()
	if y, o := h.Room(); y != young || o != old {
		t.Error("room", y, o)
	}
}

func TestNew(t *testing.T) {
	for _, x := range [][2]int{{-1, 0}, {api.MaxWords + 1, 0}, {10, -1}, {10, 11}, {math.MaxInt, math.MaxInt}, {math.MinInt, 0}} {
		if h, err := New(classes(), x[0], x[1]); h != nil || err != api.ErrLimit {
			t.Error(x)
		}
	}
	for _, x := range [][4]int{{0, 0, 0, 0}, {10, 10, 10, 0}, {11, 4, 4, 3}, {api.MaxWords, 0, 0, api.MaxWords / 2}} {
		h := of(t, x[0], x[1])
		if y, o := h.Size(); y != x[2] || o != x[3] {
			t.Error(x, y, o)
		}
		room(t, h, x[2], x[3])
	}
}

func TestExample(t *testing.T) {
	h := of(t, 100, 20)
	r, is := h.Young(0, 0)
	if class, n, obj := h.Is(r); !is || class != 0 || n != 2 || !obj {
		t.Error(r, class, n)
	}
	room(t, h, 16, 40)
	if !h.Put(r, 1, int64(r)) {
		t.Error("put")
	}
	objects, at := h.Shape([]int{r, 0})
	if !reflect.DeepEqual(objects, []api.Object{{Class: 0, Vals: []int64{0, 0}}}) || !slices.Equal(at, []int{0, -1}) {
		t.Error(objects, at)
	}
}

func TestMake(t *testing.T) {
	h := of(t, 300, 60)
	for i, x := range []struct{ class, n, vals int }{{0, 99, 2}, {1, -99, 0}, {2, 0, 3}, {-1, 0, 0}, {-1, 50, 50}, {-2, 3, 3}} {
		for _, f := range []func(int, int) (int, bool){h.Young, h.Old} {
			y, o := h.Room()
			r, is := f(x.class, x.n)
			if y2, o2 := h.Room(); y+o != y2+o2+x.vals+2 && is {
				t.Error("room", i)
			}
			if !is {
				if x.vals+2 <= y {
					t.Error("no room", i)
				}
				continue
			}
			if class, n, obj := h.Is(r); class != x.class || n != x.vals || !obj || r < 1 {
				t.Error(i, class, n)
			}
			for k := range x.vals {
				if v, is := h.Get(r, k); v != 0 || !is {
					t.Error("not 0", i, k)
				}
			}
		}
	}
	for _, x := range [][2]int{{3, 0}, {-3, 0}, {-1, -1}, {-1, 51}, {-2, math.MaxInt}, {math.MinInt, 0}} {
		if r, is := h.Young(x[0], x[1]); r != 0 || is {
			t.Error(x)
		}
		if r, is := h.Old(x[0], x[1]); r != 0 || is {
			t.Error(x)
		}
	}
	full := of(t, 12, 4)
	if _, is := full.Young(2, 0); is {
		t.Error("no room")
	}
	if r, is := full.Young(0, 0); !is || !full.InYoung(r) {
		t.Error("just room")
	}
	if r, is := full.Old(0, 0); !is || full.InYoung(r) {
		t.Error("just room")
	}
	room(t, full, 0, 0)
}

func TestIs(t *testing.T) {
	h := of(t, 100, 20)
	r, _ := h.Young(0, 0)
	for _, x := range []int{0, -1, r + 1, r + 2, r + 4, 101, math.MaxInt, math.MinInt} {
		if class, n, is := h.Is(x); class != 0 || n != 0 || is || h.InYoung(x) || h.Ref(x, 0) || h.Put(x, 0, 0) {
			t.Error(x)
		}
	}
}

func TestGetPut(t *testing.T) {
	h := of(t, 200, 40)
	a, _ := h.Young(2, 0)
	b, _ := h.Old(0, 0)
	for i, x := range []struct {
		r, i int
		v    int64
		is   bool
	}{
		{a, 0, int64(b), true}, {a, 1, 0, true}, {a, 2, math.MinInt64, true}, {b, 1, int64(a), true}, {b, 0, 5, true},
		{a, 0, int64(b) + 1, false}, {a, 0, -1, false}, {a, 0, 1 << 40, false}, {a, 0, math.MinInt64, false}, {a, 3, 0, false}, {a, -1, 0, false}, {a + 1, 0, 0, false},
	} {
		if h.Put(x.r, x.i, x.v) != x.is {
			t.Error(i)
		}
		if v, is := h.Get(x.r, x.i); x.is && (v != x.v || !is) {
			t.Error(i, v)
		}
	}
	if v, is := h.Get(a, 0); v != int64(b) || !is {
		t.Error("a put that was refused was done")
	}
	for i, want := range []bool{true, true, false, false} {
		if h.Ref(a, i) != want {
			t.Error(i)
		}
	}
	arr, _ := h.Young(-2, 2)
	ints, _ := h.Young(-1, 2)
	if !h.Ref(arr, 1) || h.Ref(arr, 2) || h.Ref(ints, 0) || h.Put(arr, 0, 3) && arr != 3 || !h.Put(ints, 0, 3) {
		t.Error("arrays")
	}
}

func TestMarked(t *testing.T) {
	h := of(t, 300, 100)
	young, _ := h.Young(0, 0)
	old1, _ := h.Old(0, 0)
	old2, _ := h.Old(-2, 3)
	h.Put(young, 1, int64(old1))
	h.Put(old1, 1, int64(old2))
	h.Put(old1, 0, int64(young))
	if got := h.Marked(); len(got) != 0 {
		t.Error(got)
	}
	h.Put(old2, 2, int64(young))
	h.Put(old1, 1, int64(young))
	h.Put(old2, 1, int64(young))
	if got := h.Marked(); !slices.Equal(got, []int{old1, old2}) {
		t.Error(got)
	}
	h.Marked()[0] = 0
	if got := h.Marked(); !slices.Equal(got, []int{old1, old2}) {
		t.Error("memory is shared")
	}
}

func TestShape(t *testing.T) {
	h := of(t, 300, 100)
	a, _ := h.Old(2, 0)
	b, _ := h.Young(0, 0)
	c, _ := h.Young(-2, 2)
	h.Put(a, 0, int64(c))
	h.Put(a, 1, int64(b))
	h.Put(a, 2, int64(b))
	h.Put(b, 0, 7)
	h.Put(c, 1, int64(a))
	objects, at := h.Shape([]int{b, 0, a, b, a + 1, -4})
	want := []api.Object{{Class: 0, Vals: []int64{7, -1}}, {Class: 2, Vals: []int64{2, 0, int64(b)}}, {Class: -2, Vals: []int64{-1, 1}}}
	if !reflect.DeepEqual(objects, want) || !slices.Equal(at, []int{0, -1, 1, 0, -1, -1}) {
		t.Error(objects, at)
	}
	objects[0].Vals[0] = 0
	if v, _ := h.Get(b, 0); v != 7 {
		t.Error("memory is shared")
	}
	if objects, at := h.Shape(nil); len(objects) != 0 || len(at) != 0 {
		t.Error("nothing")
	}
}

func TestLeast(t *testing.T) {
	for _, x := range [][3]int{{0, 0, 0}, {10, 0, 20}, {10, 4, 32}, {-5, 4, 12}, {3, -9, 6}, {1 << 40, 1 << 40, 5 << 40}, {math.MaxInt, math.MaxInt, 5 << 40}, {math.MinInt, math.MinInt, 0}} {
		if got := Least(classes(), x[0], x[1]); got != x[2] {
			t.Error(x, got)
		}
	}
	for words := range 20 {
		for nursery := range 10 {
			l := Least(classes(), words, nursery)
			h := of(t, l, nursery)
			if _, o := h.Size(); o < words+nursery {
				t.Error(words, nursery, o)
			}
			if l > nursery {
				h = of(t, l-1, nursery)
				if _, o := h.Size(); o >= words+nursery {
					t.Error("not the least", words, nursery)
				}
			}
		}
	}
}

func TestClassesAreNotKept(t *testing.T) {
	p := classes()
	h, _ := New(p, 50, 20)
	p.Classes[0].Fields = "RRRR"
	r, _ := h.Young(0, 0)
	if _, n, _ := h.Is(r); n != 2 || h.Ref(r, 0) {
		t.Error("what was handed in is kept")
	}
}
