package verify

import (
	"errors"
	"math"
	"slices"
	"sync"
	"testing"

	"overdrive/api"
	"overdrive/prog"
)

func in(op, a int) api.Instr { return api.Instr{Op: op, A: a} }

func rich(code ...api.Instr) api.Program {
	return api.Program{
		Classes: []api.Class{{Fields: "IR"}},
		Methods: []api.Method{
			{Ret: "I", Code: []api.Instr{in(api.Const, 0), in(api.Ret, 0)}},
			{Params: "IR", Locals: "R", Ret: "I", Code: code},
		},
	}
}

func TestErrors(t *testing.T) {
	c, n, ret := in(api.Const, 0), in(api.Null, 0), in(api.Ret, 0)
	var high []api.Instr
	for range 13 {
		high = append(high, c)
	}
	for i, x := range []struct {
		code []api.Instr
		pc   int
		kind error
	}{
		{[]api.Instr{ret}, 0, api.ErrStack},
		{[]api.Instr{c, c, ret}, 2, api.ErrStack},
		{[]api.Instr{n, ret}, 1, api.ErrKind},
		{[]api.Instr{n, c, ret}, 2, api.ErrStack},
		{[]api.Instr{in(api.Dup, 0)}, 0, api.ErrStack},
		{[]api.Instr{in(api.Pop, 0)}, 0, api.ErrStack},
		{[]api.Instr{n, in(api.Swap, 0)}, 1, api.ErrStack},
		{[]api.Instr{n, in(api.Add, 0)}, 1, api.ErrStack},
		{[]api.Instr{c, n, in(api.Add, 0)}, 2, api.ErrKind},
		{high, 12, api.ErrStack},
		{[]api.Instr{c}, 0, api.ErrFall},
		{[]api.Instr{c, in(api.Zero, 0), c}, 2, api.ErrFall},
		{[]api.Instr{c, in(api.Jump, 0)}, 1, api.ErrMerge},
		{[]api.Instr{c, in(api.Zero, 3), c, c, ret}, 3 - 1, api.ErrMerge},
		{[]api.Instr{c, in(api.Zero, 5), n, in(api.Jump, 6), c, c, in(api.Pop, 0), c, ret}, 5, api.ErrMerge},
		{[]api.Instr{in(api.Load, 1), in(api.Get, 0), in(api.Store, 2), c, ret}, 2, api.ErrKind},
		// the first error is that of the first one that is looked at, not of the lowest place
		{[]api.Instr{in(api.Jump, 2), in(api.Add, 0), c, in(api.Zero, 1), in(api.Add, 0)}, 1, api.ErrStack},
	} {
		_, err := Of(rich(x.code...))
		var w *api.Where
		if !errors.As(err, &w) || *w != (api.Where{Method: 1, PC: x.pc, Err: x.kind}) {
			t.Error(i, err)
		}
	}
	v, err := Of(api.Program{Methods: []api.Method{{Code: []api.Instr{c, ret}}}})
	if w := new(api.Where); v != nil || !errors.As(err, &w) || *w != (api.Where{PC: 1, Err: api.ErrStack}) {
		t.Error("an answer too many", err)
	}
	if _, err := Of(api.Program{}); err != api.ErrMany {
		t.Error(err)
	}
	bad := rich(c, ret)
	bad.Methods[1].Code[0].Op = 99
	if _, err := Of(bad); !errors.Is(err, api.ErrKind) {
		t.Error(err)
	}
}

func TestExample(t *testing.T) {
	v, err := Of(api.Program{Methods: []api.Method{{Ret: "I", Code: []api.Instr{in(api.Const, 0), in(api.Dup, 0), in(api.Add, 0), in(api.Ret, 0)}}}})
	if err != nil {
		t.Fatal(err)
	}
	if s, is := v.Stack(0, 2); s != "II" || !is || v.Most(0) != 2 || v.Words(0) != 6 {
		t.Error(s, v.Most(0), v.Words(0))
	}
}

func TestAsk(t *testing.T) {
	p := rich(in(api.Load, 1), in(api.Const, 0), in(api.Swap, 0), in(api.Store, 2), in(api.Ret, 0), in(api.Add, 0))
	v, err := Of(p)
	if err != nil {
		t.Fatal(err)
	}
	for pc, want := range []string{"", "R", "RI", "IR", "I"} {
		if s, is := v.Stack(1, pc); s != want || !is {
			t.Error(pc, s)
		}
	}
	if got := v.Refs(1, 2); !slices.Equal(got, []int{1, 2, 3}) {
		t.Error(got)
	}
	if got := v.Refs(1, 3); !slices.Equal(got, []int{1, 2, 4}) {
		t.Error(got)
	}
	if v.Most(1) != 2 || v.Words(1) != 9 {
		t.Error(v.Most(1), v.Words(1))
	}
	for _, x := range [][2]int{{1, 5}, {1, 6}, {1, -1}, {2, 0}, {-1, 0}, {math.MaxInt, math.MinInt}} {
		if s, is := v.Stack(x[0], x[1]); s != "" || is || v.Refs(x[0], x[1]) != nil {
			t.Error(x)
		}
	}
	if v.Most(2) != 0 || v.Words(2) != 0 || v.Words(-1) != 0 || v.Most(-1) != 0 {
		t.Error("no such method")
	}
}

// TestFullStack has a stack as high as may be.
func TestFullStack(t *testing.T) {
	var code []api.Instr
	for range api.MaxStack {
		code = append(code, in(api.Const, 0))
	}
	for range api.MaxStack - 1 {
		code = append(code, in(api.Add, 0))
	}
	v, err := Of(rich(append(code, in(api.Ret, 0))...))
	if err != nil || v.Most(1) != api.MaxStack {
		t.Error(err)
	}
}

func TestMemory(t *testing.T) {
	p := rich(in(api.Load, 0), in(api.Ret, 0))
	v, _ := Of(p)
	want := prog.Copy(p)
	p.Methods[1].Code[0].Op = 0
	p.Classes[0].Fields = ""
	q := v.Program()
	if !prog.Same(q, want) {
		t.Error("what was handed in is kept")
	}
	q.Methods[1].Code[0].Op = 0
	q.Methods[0].Ret = "R"
	if !prog.Same(v.Program(), want) {
		t.Error("memory is shared")
	}
	r := v.Refs(1, 0)
	r[0] = 9
	if v.Refs(1, 0)[0] != 1 {
		t.Error("memory is shared")
	}
}

func TestAsked(t *testing.T) {
	v, _ := Of(rich(in(api.Load, 0), in(api.Ret, 0)))
	if v.Asked() != 0 {
		t.Error(v.Asked())
	}
	v.Program()
	var w sync.WaitGroup
	for range 10 {
		w.Go(func() {
			v.Stack(0, 0)
			v.Most(9)
			v.Refs(1, -1)
			v.Words(1)
		})
	}
	w.Wait()
	if v.Asked() != 40 {
		t.Error(v.Asked())
	}
}
