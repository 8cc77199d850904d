package gc

import (
	"math"
	"reflect"
	"slices"
	"testing"

	"overdrive/api"
	"overdrive/heap"
	"overdrive/sample"
)

func of(t *testing.T, limit, nursery int) *heap.Heap {
	t.Helper()
	h, err := heap.New(api.Program{Classes: []api.Class{{Fields: "IR"}, {}, {Fields: "RRI"}}}, limit, nursery)
	if err != nil {
		t.Fatal(err)
	}
	return h
}

func room(t *testing.T, h *heap.Heap, young, old int) {
	t.Helper()
	if y, o := h.Room(); y != young || o != old {
		t.Error("room", y, o)
	}
}

func TestRing(t *testing.T) {
	h := of(t, 100, 20)
	a, _ := h.Young(0, 0)
	b, _ := h.Young(0, 0)
	h.Young(2, 0)
	h.Put(a, 1, int64(b))
	h.Put(b, 1, int64(a))
	h.Put(b, 0, 9)
	roots := []int{a, 0, a, 77, -1}
	now, is := Minor(h, roots)
	if !is || now[0] != now[2] || now[1] != 0 || now[3] != 77 || now[4] != -1 || h.InYoung(now[0]) {
		t.Error(now, is)
	}
	room(t, h, 20, 32)
	if objects, _ := h.Shape(now[:1]); !reflect.DeepEqual(objects, []api.Object{{Vals: []int64{0, 1}}, {Vals: []int64{9, 0}}}) {
		t.Error(objects)
	}
	if _, _, is := h.Is(b); is || roots[0] != a {
		t.Error("what is gone is there, or what was handed in was changed")
	}
	if Verify(h, roots) || !Verify(h, now[:3]) || !Verify(h, nil) {
		t.Error("verify")
	}
}

// TestMinorOld asks that old objects hold young ones, those that nobody reaches too, and that marks go.
func TestMinorOld(t *testing.T) {
	h := of(t, 100, 20)
	old, _ := h.Old(0, 0)
	young, _ := h.Young(0, 0)
	h.Put(young, 0, 5)
	h.Put(old, 1, int64(young))
	now, is := Minor(h, nil)
	v, _ := h.Get(old, 1)
	if n, _ := h.Get(int(v), 0); !is || len(now) != 0 || n != 5 || h.InYoung(int(v)) || len(h.Marked()) != 0 {
		t.Error(v, is)
	}
	room(t, h, 20, 32)
	young, _ = h.Young(0, 0)
	h.Put(old, 1, int64(young))
	if !slices.Equal(h.Marked(), []int{old}) || !Verify(h, []int{old}) {
		t.Error("marked anew")
	}
}

func TestMinorRoom(t *testing.T) {
	h := of(t, 30, 20) // halves of 5
	a, _ := h.Young(0, 0)
	if now, is := Minor(h, []int{a}); !is || h.InYoung(now[0]) {
		t.Error("just room")
	}
	room(t, h, 20, 1)
	b, _ := h.Young(1, 0)
	if now, is := Minor(h, []int{b}); is || now != nil || !h.InYoung(b) {
		t.Error("no room")
	}
	if now, is := Major(h, []int{b}); !is || h.InYoung(now[0]) {
		t.Error("major")
	}
	room(t, h, 20, 3)
}

func TestMajor(t *testing.T) {
	h := of(t, 100, 20)
	a, _ := h.Old(2, 0)
	h.Old(2, 0)
	b, _ := h.Young(0, 0)
	h.Young(0, 0)
	h.Put(a, 1, int64(b))
	h.Put(b, 1, int64(a))
	now, is := Major(h, []int{0, b, a})
	if !is || now[0] != 0 || !Verify(h, now) || len(h.Marked()) != 0 {
		t.Error(now, is)
	}
	room(t, h, 20, 31)
	if all := h.All(); len(all) != 2 || all[0]+h.Total(all[:1]) != all[1] {
		t.Error("not one behind the other", all)
	}
	now, _ = Major(h, now)
	room(t, h, 20, 31)
	Major(h, nil)
	room(t, h, 20, 40)
}

func TestMajorRoom(t *testing.T) {
	h := of(t, 32, 20) // halves of 6
	var roots []int
	for range 2 {
		r, _ := h.Young(0, 0)
		roots = append(roots, r)
	}
	before, _ := h.Shape(roots)
	if now, is := Major(h, roots); is || now != nil {
		t.Error("no room")
	}
	if after, _ := h.Shape(roots); !reflect.DeepEqual(before, after) || !Verify(h, roots) {
		t.Error("something was done")
	}
	room(t, h, 12, 6)
}

func TestMake(t *testing.T) {
	h := of(t, 40, 8) // halves of 16
	for _, x := range [][2]int{{3, 0}, {-3, 0}, {-1, -1}, {-1, 51}, {math.MinInt, math.MaxInt}} {
		if r, roots, is := Make(h, x[0], x[1], []int{0}); r != 0 || roots != nil || is {
			t.Error(x)
		}
	}
	a, roots, is := Make(h, 0, 0, nil)
	if !is || !h.InYoung(a) || len(roots) != 0 {
		t.Error("young")
	}
	big, roots, is := Make(h, -1, 7, []int{a})
	if !is || h.InYoung(big) || !slices.Equal(roots, []int{a}) {
		t.Error("old")
	}
	room(t, h, 4, 7)
	b, roots, is := Make(h, 2, 0, []int{a, big}) // 5 words: a Minor
	if !is || !h.InYoung(b) || h.InYoung(roots[0]) {
		t.Error("minor")
	}
	room(t, h, 3, 3)
	c, roots, is := Make(h, 0, 0, []int{roots[0], b, 99}) // a Minor is not to be: a Major, that lets the big one go
	if !is || !h.InYoung(c) || roots[2] != 99 {
		t.Error("major")
	}
	room(t, h, 4, 7)
	if _, now, is := Make(h, -1, 9, roots); is || len(now) != 3 || !Verify(h, now[:2]) {
		t.Error("no room at all", now)
	}
	room(t, h, 8, 7)
}

// TestLeast asks that there is always room where the least limit was told.
func TestLeast(t *testing.T) {
	for nursery := range 12 {
		w := 30
		h := of(t, heap.Least(api.Program{}, w, nursery), nursery)
		roots := []int{0, 0, 0, 0, 0, 0}
		d := sample.New(uint64(nursery))
		for range 500 {
			k := d.Roll(len(roots))
			roots[k] = 0
			met, _ := h.Shape(roots)
			words := 0
			for _, o := range met {
				words += 2 + len(o.Vals)
			}
			n := d.Roll(w)
			if words+2+n > w {
				continue
			}
			r, now, is := Make(h, -1-d.Roll(2), n, roots)
			if !is {
				t.Fatal(nursery, words, n)
			}
			roots = now
			roots[k] = r
		}
	}
}

// TestAnything does what may come, and asks behind each collection that all is as it was.
func TestAnything(t *testing.T) {
	for seed := range uint64(60) {
		d := sample.New(seed)
		h := of(t, 60+d.Roll(400), d.Roll(60))
		roots := make([]int, 5)
		for range 300 {
			before, at := h.Shape(roots)
			k := d.Roll(len(roots))
			switch d.Roll(6) {
			case 0:
				if now, is := Minor(h, roots); is {
					roots = now
				}
			case 1:
				if now, is := Major(h, roots); is {
					roots = now
					_, left := h.Room()
					if _, size := h.Size(); size-left != h.Total(h.All()) || len(h.All()) != len(before) {
						t.Fatal("more than the shape")
					}
				}
			case 2, 3:
				r, now, is := Make(h, d.Roll(5)-2, d.Roll(6), roots)
				roots = now
				if is {
					roots[k], before = r, nil
				}
			default:
				h.Put(roots[k], d.Roll(3), int64(roots[d.Roll(len(roots))]))
				before = nil
			}
			if after, now := h.Shape(roots); before != nil && (!reflect.DeepEqual(before, after) || !slices.Equal(at, now)) {
				t.Fatal(seed, before, after)
			}
			if !Verify(h, roots) {
				t.Fatal(seed)
			}
		}
	}
}

func TestNewMemory(t *testing.T) {
	h := of(t, 100, 20)
	a, _ := h.Young(0, 0)
	room := make([]int, 1, 9)
	room[0] = a
	for _, f := range []func() []int{
		func() []int { l, _ := Minor(h, room); return l },
		func() []int { l, _ := Major(h, room); return l },
		func() []int { _, l, _ := Make(h, 1, 0, room); return l },
	} {
		x, y := f(), f()
		x, y = append(x, 1), append(y, 2)
		if x[1] != 1 || y[1] != 2 || room[:2][1] != 0 {
			t.Error("memory is shared")
		}
	}
}
