package prog

import (
	"errors"
	"math"
	"slices"
	"strings"
	"testing"

	"overdrive/api"
)

func code(l ...api.Instr) []api.Instr { return l }

func one(l ...api.Instr) api.Program {
	return api.Program{Methods: []api.Method{{Ret: "I", Code: l}}}
}

// rich has classes and a second method, so that every instruction has something to name.
func rich(l ...api.Instr) api.Program {
	return api.Program{
		Classes: []api.Class{{Fields: "IR"}, {}},
		Methods: []api.Method{
			{Ret: "I", Code: code(api.Instr{Op: api.Const}, api.Instr{Op: api.Ret})},
			{Params: "IR", Locals: "I", Ret: "R", Code: l},
		},
	}
}

func ret() api.Instr { return api.Instr{Op: api.Ret} }

func wantWhere(t *testing.T, what string, err error, method, pc int, kind error) {
	t.Helper()
	var w *api.Where
	if !errors.As(err, &w) || *w != (api.Where{Method: method, PC: pc, Err: kind}) {
		t.Error(what, err)
	}
}

func TestMayBare(t *testing.T) {
	if err := May(one(api.Instr{Op: api.Const, N: 1}, ret())); err != nil {
		t.Error(err)
	}
	many := one(ret())
	many.Classes = make([]api.Class, api.MaxClasses+1)
	if May(many) != api.ErrMany || May(api.Program{}) != api.ErrMany {
		t.Error("classes, no method")
	}
	many = one(ret())
	for len(many.Methods) < api.MaxMethods {
		many.Methods = append(many.Methods, many.Methods[0])
	}
	many.Classes = make([]api.Class, api.MaxClasses)
	if May(many) != nil {
		t.Error("as many as may be")
	}
	many.Methods = append(many.Methods, many.Methods[0])
	if May(many) != api.ErrMany {
		t.Error("methods")
	}
}

func TestMayClasses(t *testing.T) {
	for fields, kind := range map[string]error{strings.Repeat("I", 11): api.ErrMany, strings.Repeat("x", 11): api.ErrMany, "IX": api.ErrKind, "i": api.ErrKind} {
		p := one(api.Instr{})
		p.Classes = []api.Class{{Fields: "IR"}, {Fields: fields}}
		wantWhere(t, fields, May(p), 1, -1, kind)
	}
	p := one(api.Instr{Op: api.Const}, ret())
	p.Classes = []api.Class{{Fields: strings.Repeat("R", 10)}}
	if May(p) != nil {
		t.Error("ten fields")
	}
}

func TestMayHeads(t *testing.T) {
	for i, x := range []struct {
		m    api.Method
		kind error
	}{
		{api.Method{Params: strings.Repeat("I", 7), Locals: strings.Repeat("R", 6), Code: code(ret())}, api.ErrMany},
		{api.Method{Params: "X"}, api.ErrMany},
		{api.Method{Code: make([]api.Instr, 121)}, api.ErrMany},
		{api.Method{Params: "X", Code: code(ret())}, api.ErrKind},
		{api.Method{Locals: "X", Code: code(ret())}, api.ErrKind},
		{api.Method{Ret: "X", Code: code(api.Instr{})}, api.ErrKind},
		{api.Method{Ret: "II", Code: code(ret())}, api.ErrKind},
	} {
		p := one(ret())
		p.Methods = append(p.Methods, x.m)
		wantWhere(t, string(rune('a'+i)), May(p), 1, -1, x.kind)
	}
	for _, m := range []api.Method{{Params: "I", Code: code(ret())}, {Ret: "R", Code: code(ret())}} {
		wantWhere(t, "first", May(api.Program{Methods: []api.Method{m}}), 0, -1, api.ErrKind)
	}
}

func TestMayInstructions(t *testing.T) {
	for _, x := range []struct {
		i    api.Instr
		kind error
	}{
		{api.Instr{Op: 0}, api.ErrKind}, {api.Instr{Op: 36, A: 9}, api.ErrKind}, {api.Instr{Op: -1}, api.ErrKind}, {api.Instr{Op: api.Param}, api.ErrKind},
		{api.Instr{Op: api.Load, A: 3}, api.ErrIndex}, {api.Instr{Op: api.Store, A: -1}, api.ErrIndex}, {api.Instr{Op: api.Load, A: 2}, nil},
		{api.Instr{Op: api.New, A: 2}, api.ErrIndex}, {api.Instr{Op: api.Is, A: 2}, api.ErrIndex}, {api.Instr{Op: api.New, A: 1}, nil},
		{api.Instr{Op: api.Get, A: 0, B: 2}, api.ErrIndex}, {api.Instr{Op: api.Put, A: 1}, api.ErrIndex}, {api.Instr{Op: api.Put, B: -1}, api.ErrIndex}, {api.Instr{Op: api.Get, A: 2}, api.ErrIndex}, {api.Instr{Op: api.Get, B: 1}, nil},
		{api.Instr{Op: api.Array, A: 2}, api.ErrIndex}, {api.Instr{Op: api.Elem, A: -1}, api.ErrIndex}, {api.Instr{Op: api.Set, A: 2}, api.ErrIndex}, {api.Instr{Op: api.Set, A: 1}, nil},
		{api.Instr{Op: api.Call}, api.ErrIndex}, {api.Instr{Op: api.Call, A: 2}, api.ErrIndex}, {api.Instr{Op: api.Call, A: 1}, nil},
		{api.Instr{Op: api.Jump, A: 2}, api.ErrTarget}, {api.Instr{Op: api.Zero, A: -1, B: 4}, api.ErrTarget}, {api.Instr{Op: api.Zero, A: 1}, nil},
		{api.Instr{Op: api.Const, A: 1}, api.ErrIndex}, {api.Instr{Op: api.Const, N: math.MinInt64}, nil}, {api.Instr{Op: api.Add, N: 1}, api.ErrIndex}, {api.Instr{Op: api.Load, B: 1}, api.ErrIndex}, {api.Instr{Op: api.Jump, N: 1}, api.ErrIndex}, {api.Instr{Op: api.Out, A: 1}, api.ErrIndex},
	} {
		err := May(rich(x.i, ret()))
		if x.kind == nil && err != nil {
			t.Error(x.i, err)
		}
		if x.kind != nil {
			wantWhere(t, Name(x.i.Op), err, 1, 0, x.kind)
		}
	}
	wantWhere(t, "load 0", May(one(api.Instr{Op: api.Load}, ret())), 0, 0, api.ErrIndex)
}

func TestEffect(t *testing.T) {
	p := rich(ret())
	for _, x := range []struct {
		i         api.Instr
		pop, push string
	}{
		{api.Instr{Op: api.Const}, "", "I"}, {api.Instr{Op: api.Null}, "", "R"}, {api.Instr{Op: api.Load, A: 1}, "", "R"}, {api.Instr{Op: api.Store, A: 2}, "I", ""},
		{api.Instr{Op: api.Add}, "II", "I"}, {api.Instr{Op: api.Shr}, "II", "I"}, {api.Instr{Op: api.Eq}, "II", "I"}, {api.Instr{Op: api.Div}, "II", "I"}, {api.Instr{Op: api.Neg}, "I", "I"}, {api.Instr{Op: api.Same}, "RR", "I"},
		{api.Instr{Op: api.Jump}, "", ""}, {api.Instr{Op: api.Zero}, "I", ""}, {api.Instr{Op: api.New}, "", "R"},
		{api.Instr{Op: api.Get, B: 1}, "R", "R"}, {api.Instr{Op: api.Put}, "RI", ""}, {api.Instr{Op: api.Put, B: 1}, "RR", ""},
		{api.Instr{Op: api.Is}, "R", "I"}, {api.Instr{Op: api.Len}, "R", "I"}, {api.Instr{Op: api.Array, A: 1}, "I", "R"},
		{api.Instr{Op: api.Elem}, "RI", "I"}, {api.Instr{Op: api.Elem, A: 1}, "RI", "R"}, {api.Instr{Op: api.Set}, "RII", ""}, {api.Instr{Op: api.Set, A: 1}, "RIR", ""},
		{api.Instr{Op: api.Call, A: 1}, "IR", "R"}, {api.Instr{Op: api.Ret}, "R", ""}, {api.Instr{Op: api.In}, "", "I"}, {api.Instr{Op: api.Out}, "I", ""},
	} {
		pop, push, is := Effect(p, 1, x.i)
		if pop != x.pop || push != x.push || !is {
			t.Error(Name(x.i.Op), pop, push, is)
		}
	}
	for _, i := range []api.Instr{{Op: api.Dup}, {Op: api.Pop}, {Op: api.Swap}, {Op: 0}, {Op: api.Phi}, {Op: api.Load, A: 9}, {Op: api.Get, A: 7}} {
		if pop, push, is := Effect(p, 1, i); pop != "" || push != "" || is {
			t.Error(i)
		}
	}
	if pop, _, is := Effect(p, 0, ret()); pop != "I" || !is {
		t.Error("the method's own")
	}
	if _, _, is := Effect(p, 2, ret()); is {
		t.Error("no such method")
	}
}

func TestNextBack(t *testing.T) {
	m := api.Method{Code: code(api.Instr{Op: api.Zero, A: 3}, api.Instr{Op: api.Jump, A: 1}, api.Instr{Op: api.Zero, A: 0}, ret(), api.Instr{Op: api.Zero, A: 5}, api.Instr{Op: api.Add})}
	next := [][]int{{1, 3}, {1}, {0, 3}, nil, {5}, {6}}
	back := []bool{false, true, true, false, false, false}
	for pc := range next {
		if got := Next(m, pc); !slices.Equal(got, next[pc]) || Back(m, pc) != back[pc] {
			t.Error(pc, got)
		}
	}
	for _, pc := range []int{-1, 6, math.MaxInt} {
		if Next(m, pc) != nil || Back(m, pc) {
			t.Error(pc)
		}
	}
	a := Next(m, 0)
	a[0] = 9
	if Next(m, 0)[0] != 1 {
		t.Error("memory is shared")
	}
}

func TestWords(t *testing.T) {
	p := rich(ret())
	for _, x := range [][3]int{{0, 9, 4}, {1, -9, 2}, {-1, 0, 2}, {-2, 50, 52}, {2, 0, 0}, {-3, 1, 0}, {-1, -1, 0}} {
		if got := Words(p, x[0], x[1]); got != x[2] {
			t.Error(x, got)
		}
	}
}

func TestNames(t *testing.T) {
	for op, name := range map[int]string{0: "", 1: "const", 3: "load", 21: "same", 23: "zero", 35: "out", 36: "", 39: "", 40: "param", 44: "guard", 47: "return", 48: "", -1: ""} {
		if Name(op) != name {
			t.Error(op, Name(op))
		}
	}
	traps, safe := "", ""
	for op := -1; op < 60; op++ {
		if Traps(op) {
			traps += Name(op) + " "
		}
		if Safe(op) {
			safe += Name(op) + " "
		}
	}
	if traps != "div rem get put array elem set len in " || safe != "new array call " {
		t.Error(traps, safe)
	}
}

func TestSame(t *testing.T) {
	a := rich(ret())
	changes := []func(p *api.Program){
		func(p *api.Program) { p.Classes[0].Fields = "RI" },
		func(p *api.Program) { p.Classes = p.Classes[:1] },
		func(p *api.Program) { p.Methods = p.Methods[:1] },
		func(p *api.Program) { p.Methods[1].Params = "RI" },
		func(p *api.Program) { p.Methods[1].Locals = "R" },
		func(p *api.Program) { p.Methods[1].Ret = "" },
		func(p *api.Program) { p.Methods[0].Code[0].N = 1 },
	}
	for i, change := range changes {
		b := Copy(a)
		if !Same(a, b) {
			t.Error("same")
		}
		change(&b)
		if Same(a, b) {
			t.Error(i)
		}
	}
	b := Copy(a)
	a.Methods[0].Params = "I"
	b.Methods[0].Locals = "I"
	if Same(a, b) {
		t.Error("params are not locals")
	}
	if !Same(api.Program{Classes: []api.Class{}}, api.Program{}) {
		t.Error("none and nil")
	}
}
