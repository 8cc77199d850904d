package frames

import (
	"math"
	"slices"
	"testing"

	"overdrive/api"
	"overdrive/verify"
)

func of(t *testing.T, limit int) *Stack {
	t.Helper()
	in := func(op, a int) api.Instr { return api.Instr{Op: op, A: a} }
	v, err := verify.Of(api.Program{Methods: []api.Method{
		{Code: []api.Instr{in(api.Ret, 0)}},
		{Params: "IR", Locals: "RI", Ret: "I", Code: []api.Instr{in(api.Load, 0), in(api.Load, 3), in(api.Add, 0), in(api.Ret, 0)}},
	}})
	if err != nil {
		t.Fatal(err)
	}
	s, err := New(v, limit)
	if err != nil {
		t.Fatal(err)
	}
	return s
}

func i(n int64) Slot { return Slot{N: n} }
func r(n int64) Slot { return Slot{Ref: true, N: n} }

func TestNew(t *testing.T) {
	v, _ := verify.Of(api.Program{Methods: []api.Method{{Code: []api.Instr{{Op: api.Ret}}}}})
	for _, limit := range []int{-1, api.MaxWords + 1, math.MaxInt, math.MinInt} {
		if s, err := New(v, limit); s != nil || err != api.ErrLimit {
			t.Error(limit)
		}
	}
	for _, limit := range []int{0, api.MaxWords} {
		if s, err := New(v, limit); err != nil || s.Len() != 0 || s.Words() != 0 {
			t.Error(limit)
		}
	}
}

func TestPush(t *testing.T) {
	s := of(t, 24) // 4 and 10 words
	for k, x := range []struct {
		method int
		args   []Slot
		want   error
	}{
		{-1, nil, api.ErrIndex}, {2, nil, api.ErrIndex}, {0, []Slot{i(1)}, api.ErrShape}, {1, []Slot{i(1)}, api.ErrShape}, {1, []Slot{r(1), r(1)}, api.ErrShape}, {1, []Slot{i(1), i(1)}, api.ErrShape}, {1, []Slot{i(1), r(-1)}, api.ErrShape},
		{1, []Slot{i(-5), r(9)}, nil}, {1, []Slot{i(5), r(0)}, nil}, {1, []Slot{i(5), r(0)}, api.ErrRoom}, {1, nil, api.ErrShape}, {0, nil, nil}, {0, nil, api.ErrRoom},
	} {
		n, words := s.Len(), s.Words()
		if err := s.Push(x.method, x.args); err != x.want {
			t.Error(k, err)
		} else if err != nil && (s.Len() != n || s.Words() != words) {
			t.Error(k, "something was done")
		}
	}
	if s.Len() != 3 || s.Words() != 24 {
		t.Error(s.Len(), s.Words())
	}
	m, pc, locals, stack, is := s.At(0)
	if m != 1 || pc != 0 || !slices.Equal(locals, []Slot{i(-5), r(9), r(0), i(0)}) || len(stack) != 0 || !is {
		t.Error(m, pc, locals)
	}
	if m, pc, is := s.Top(); m != 0 || pc != 0 || !is {
		t.Error(m)
	}
	for n := 3; n > 0; n-- {
		if !s.Pop() || s.Len() != n-1 {
			t.Error(n)
		}
	}
	if s.Pop() || s.Words() != 0 {
		t.Error("none left")
	}
}

func TestTop(t *testing.T) {
	s := of(t, 100)
	if _, _, is := s.Top(); is || s.Jump(0) || s.Lay(i(1)) || s.SetLocal(0, i(1)) {
		t.Error("no frame")
	}
	if _, is := s.Local(0); is {
		t.Error("no frame")
	}
	if _, is := s.Take(); is {
		t.Error("no frame")
	}
	s.Push(1, []Slot{i(5), r(9)})
	s.Push(1, []Slot{i(6), r(8)})
	if !s.Jump(3) || s.Jump(4) || s.Jump(-1) {
		t.Error("jump")
	}
	if m, pc, is := s.Top(); m != 1 || pc != 3 || !is {
		t.Error(m, pc)
	}
	for k, x := range []struct {
		at   int
		slot Slot
		is   bool
	}{{0, i(7), true}, {1, r(3), true}, {2, r(0), true}, {3, i(-7), true}, {0, r(1), false}, {1, i(1), false}, {1, r(-1), false}, {4, i(1), false}, {-1, i(1), false}} {
		if s.SetLocal(x.at, x.slot) != x.is {
			t.Error(k)
		}
		if got, is := s.Local(x.at); x.is && (got != x.slot || !is) {
			t.Error(k, got)
		}
	}
	for _, at := range []int{-1, 4, math.MaxInt} {
		if x, is := s.Local(at); x != (Slot{}) || is {
			t.Error(at)
		}
	}
	if _, pc, locals, _, _ := s.At(0); pc != 0 || !slices.Equal(locals, []Slot{i(5), r(9), r(0), i(0)}) {
		t.Error("the frame beneath")
	}
}

func TestLayTake(t *testing.T) {
	s := of(t, 100)
	s.Push(0, nil)
	if s.Lay(r(-1)) || !s.Lay(r(4)) || !s.Lay(i(-1)) {
		t.Error("lay")
	}
	if got := s.Peek(2); !slices.Equal(got, []Slot{r(4), i(-1)}) || s.Peek(3) != nil || s.Peek(-1) != nil {
		t.Error(got)
	}
	if x, is := s.Take(); x != i(-1) || !is {
		t.Error(x)
	}
	if x, is := s.Take(); x != r(4) || !is {
		t.Error(x)
	}
	if x, is := s.Take(); x != (Slot{}) || is {
		t.Error(x)
	}
	for k := range api.MaxStack {
		if !s.Lay(i(int64(k))) {
			t.Error(k)
		}
	}
	if s.Lay(i(0)) {
		t.Error("more than may be")
	}
	if _, _, _, stack, _ := s.At(0); len(stack) != api.MaxStack || stack[3] != i(3) {
		t.Error(stack)
	}
}

func TestRoots(t *testing.T) {
	s := of(t, 100)
	if len(s.Roots()) != 0 || !s.SetRoots(nil) {
		t.Error("none")
	}
	s.Push(1, []Slot{i(5), r(9)})
	s.Lay(i(1))
	s.Lay(r(7))
	s.Push(1, []Slot{i(5), r(0)})
	s.Lay(r(9))
	if got := s.Roots(); !slices.Equal(got, []int{9, 0, 7, 0, 0, 9}) {
		t.Error(got)
	}
	for _, l := range [][]int{nil, {1}, {1, 2, 3, 4, 5, 6, 7}, {1, 2, 3, 4, 5, -6}} {
		if s.SetRoots(l) || !slices.Equal(s.Roots(), []int{9, 0, 7, 0, 0, 9}) {
			t.Error(l)
		}
	}
	l := []int{12, 1, 2, 3, 4, 5}
	if !s.SetRoots(l) || !slices.Equal(s.Roots(), l) {
		t.Error(s.Roots())
	}
	_, _, locals, stack, _ := s.At(0)
	if !slices.Equal(locals, []Slot{i(5), r(12), r(1), i(0)}) || !slices.Equal(stack, []Slot{i(1), r(2)}) {
		t.Error(locals, stack)
	}
}

func TestMemory(t *testing.T) {
	s := of(t, 100)
	args := []Slot{i(5), r(9)}
	s.Push(1, args)
	args[0] = i(6)
	s.Lay(i(1))
	_, _, locals, stack, _ := s.At(0)
	if locals[0] != i(5) {
		t.Error("what was handed in is kept")
	}
	locals[0], stack[0] = i(7), i(7)
	s.Roots()[0] = 3
	_, _, locals, stack, _ = s.At(0)
	if locals[0] != i(5) || stack[0] != i(1) || s.Roots()[0] != 9 {
		t.Error("memory is shared")
	}
	for _, k := range []int{-1, 1, math.MaxInt} {
		if m, pc, l, st, is := s.At(k); m != 0 || pc != 0 || l != nil || st != nil || is {
			t.Error(k)
		}
	}
}
