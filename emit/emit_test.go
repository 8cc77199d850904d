package emit

import (
	"math"
	"reflect"
	"slices"
	"sync"
	"testing"

	"overdrive/alloc"
	"overdrive/api"
	"overdrive/build"
	"overdrive/escape"
	"overdrive/eval"
	"overdrive/fold"
	"overdrive/gvn"
	"overdrive/inline"
	"overdrive/model"
	"overdrive/prog"
	"overdrive/sample"
	"overdrive/script"
	"overdrive/ssa"
	"overdrive/verify"
)

var in = sample.In

func info(t *testing.T, locals string, main []api.Instr, more ...api.Method) *verify.Info {
	t.Helper()
	v, err := verify.Of(api.Program{Classes: []api.Class{{Fields: "IR"}}, Methods: append([]api.Method{{Locals: locals, Ret: "I", Code: main}}, more...)})
	if err != nil {
		t.Fatal(err)
	}
	return v
}

func TestErrors(t *testing.T) {
	v := info(t, "", []api.Instr{in(api.Const, 0), in(api.Zero, 4), in(api.Const, 0), in(api.Ret, 0), in(api.Jump, 2)})
	for i, x := range []struct {
		method, entry, regs int
		want                error
	}{
		{-1, 0, 4, api.ErrIndex}, {1, 0, 0, api.ErrIndex}, {0, 1, 4, api.ErrIndex}, {0, 5, 99, api.ErrIndex}, {math.MaxInt, 0, 4, api.ErrIndex},
		{0, 0, 0, api.ErrLimit}, {0, 0, 17, api.ErrLimit}, {0, 2, -1, api.ErrLimit}, {0, 0, 1, nil}, {0, 2, 16, nil},
	} {
		for _, guess := range []bool{false, true} {
			o := script.Options{Guess: guess, Regs: x.regs}
			c, err := Compile(v, x.method, x.entry, o)
			if err != x.want || (c != nil) != (err == nil) {
				t.Error(i, err)
			}
			f, err := Function(v, x.method, x.entry, o)
			if (x.want == api.ErrIndex) != (err == api.ErrIndex) || err != nil && !reflect.DeepEqual(f, api.Function{}) {
				t.Error(i, err)
			}
			if c != nil && (c.Method() != x.method || c.Entry() != x.entry || c.Regs() != x.regs || c.Text() == "") {
				t.Error(i, c.Text())
			}
		}
	}
}

func TestNoPoints(t *testing.T) {
	v := info(t, "", []api.Instr{in(api.Const, 0), in(api.Ret, 0)})
	c, err := Compile(v, 0, 0, script.Options{Regs: 1})
	if err != nil || len(c.Points()) != 0 || c.Spills() != 0 {
		t.Error(c.Points(), err)
	}
}

// composed is the passes one after the other, as they are asked for.
func composed(t *testing.T, v *verify.Info, method, entry int, o script.Options) api.Function {
	t.Helper()
	var guesses []build.Guess
	m := v.Program().Methods[method]
	for pc, i := range m.Code {
		if _, is := v.Stack(method, pc); is && o.Guess && i.Op == api.Zero && !prog.Back(m, pc) {
			guesses = append(guesses, build.Guess{PC: pc})
		}
	}
	f, err := build.Build(v, method, entry, guesses...)
	do := func(is bool, pass func(*verify.Info, api.Function) (api.Function, error)) {
		if is && err == nil {
			f, err = pass(v, f)
		}
	}
	do(o.Inline, func(v *verify.Info, f api.Function) (api.Function, error) { return inline.Pass(v, f, 400) })
	do(o.Fold, fold.Pass)
	do(o.Gvn, gvn.Same)
	do(o.Gvn, gvn.Dead)
	do(o.Escape, escape.Pass)
	do(o.Escape && o.Fold, fold.Pass)
	do(o.Escape && o.Gvn, gvn.Same)
	do(o.Escape && o.Gvn, gvn.Dead)
	if err != nil {
		t.Fatal(err)
	}
	return f
}

func TestFunction(t *testing.T) {
	for seed := range uint64(80) {
		v := sample.Program(seed)
		for m := range v.Program().Methods {
			o := script.Unpack(int(seed*7+uint64(m)) % 32)
			f, err := Function(v, m, 0, o)
			if err != nil || !ssa.Same(f, composed(t, v, m, 0, o)) {
				t.Error(seed, m, o, err)
			}
		}
	}
}

// TestMeaning asks that what is compiled means what the program does.
func TestMeaning(t *testing.T) {
	for seed := range uint64(300) {
		v := sample.Program(seed)
		d := sample.New(seed)
		input := sample.Inputs(seed)
		want, _ := model.Run(v, input, 90)
		var fs []api.Function
		for m := range v.Program().Methods {
			f, err := Function(v, m, 0, script.Unpack(d.Roll(32)|8))
			if err != nil {
				t.Fatal(err)
			}
			fs = append(fs, f)
		}
		for round := range 3 {
			var down []int
			for k := range 50 {
				if d.Roll(4) < round {
					down = append(down, k)
				}
			}
			if got, _, err := eval.Run(v, fs, input, 90, down); err != nil || !reflect.DeepEqual(got, want) {
				t.Fatal(seed, got, want, err)
			}
		}
	}
}

// TestPoint looks at a point in a call that is laid in, with an object that is not there.
func TestPoint(t *testing.T) {
	v := info(t, "RI", []api.Instr{in(api.New, 0), in(api.Store, 0), in(api.In, 0), in(api.Store, 1), in(api.Load, 1), in(api.Load, 0), in(api.Call, 1), in(api.Load, 1), in(api.Add, 0), in(api.Add, 0), in(api.Ret, 0)},
		api.Method{Params: "R", Ret: "I", Code: []api.Instr{in(api.Null, 0), in(api.Call, 2), in(api.Load, 0), in(api.Get, 0), in(api.Ret, 0)}},
		api.Method{Params: "R", Code: []api.Instr{in(api.Jump, 0)}})
	c, err := Compile(v, 0, 0, script.Options{Inline: true, Escape: true, Gvn: true, Regs: 8})
	if err != nil {
		t.Fatal(err)
	}
	points := c.Points()
	if len(points) != 3 || points[0].Op != api.In || points[1].Op != api.Enter || points[2].Op != api.Call {
		t.Fatal(points)
	}
	p := points[2]
	if p.Method != 1 || p.PC != 1 || p.State.Method != 1 || p.State.PC != 1 || p.State.Up != 0 || !slices.Equal(p.State.Locals, []int{-2}) || !slices.Equal(p.State.Stack, []int{0}) {
		t.Error(p)
	}
	if len(p.State.Virtuals) != 1 || !slices.Equal(p.State.Virtuals[0].Fields, []int{1, 0}) {
		t.Error("the field's none is the argument", p.State.Virtuals, c.Text())
	}
	if len(p.Beneath) != 1 || p.Beneath[0].Up != 0 || p.Beneath[0].PC != 6 || p.Beneath[0].Virtuals != nil || !slices.Equal(p.Beneath[0].Locals, []int{-1, 2}) || !slices.Equal(p.Beneath[0].Stack, []int{2}) {
		t.Error(p.Beneath)
	}
	if len(p.Places) != 3 || len(p.Map) != 1 || p.Map[0] != p.Places[0] {
		t.Error(p.Places, p.Map)
	}
}

// back is the nodes that a list of slots named.
func back(l []int, nodes []int) []int {
	var out []int
	for _, slot := range l {
		if slot >= 0 {
			slot = nodes[slot]
		}
		out = append(out, slot)
	}
	return out
}

func checkPoint(t *testing.T, f api.Function, r alloc.Result, n int, p Point) {
	t.Helper()
	var nodes []int
	for slot := range ssa.Slots(f, f.Nodes[n].State) {
		if slot >= 0 && !slices.Contains(nodes, slot) {
			nodes = append(nodes, slot)
		}
	}
	chain := ssa.Chain(f, f.Nodes[n].State)
	if p.Op != f.Nodes[n].Op || len(p.Beneath) != len(chain)-1 || len(p.Places) != len(nodes) || p.Method != f.States[chain[0]].Method || p.PC != f.States[chain[0]].PC {
		t.Fatal("point", p)
	}
	var refs []int
	for k, node := range nodes {
		if p.Places[k] != r.Places[node] || slices.Contains(p.Places[:k], p.Places[k]) {
			t.Fatal("places", p.Places)
		}
		if f.Nodes[node].Kind == "R" {
			refs = append(refs, p.Places[k])
		}
	}
	slices.Sort(refs)
	if !slices.Equal(refs, p.Map) {
		t.Fatal("map", refs, p.Map)
	}
	for k, s := range append([]api.State{p.State}, p.Beneath...) {
		want := f.States[chain[k]]
		if s.Method != want.Method || s.PC != want.PC || s.Up != 0 || !slices.Equal(back(s.Locals, nodes), want.Locals) || !slices.Equal(back(s.Stack, nodes), want.Stack) {
			t.Fatal("state", s, want)
		}
		if k > 0 {
			want.Virtuals = nil
		}
		if len(s.Virtuals) != len(want.Virtuals) {
			t.Fatal("virtuals", s)
		}
		for i, x := range s.Virtuals {
			if x.Class != want.Virtuals[i].Class || !slices.Equal(back(x.Fields, nodes), want.Virtuals[i].Fields) {
				t.Fatal("virtual", x)
			}
		}
	}
}

func TestPoints(t *testing.T) {
	virtual, beneath := 0, 0
	for seed := range uint64(150) {
		v := sample.Program(seed)
		d := sample.New(seed)
		for m := range v.Program().Methods {
			o := script.Unpack(d.Roll(512))
			c, err := Compile(v, m, 0, o)
			if err != nil {
				t.Fatal(err)
			}
			f, _ := Function(v, m, 0, o)
			r, err := alloc.Assign(v, f, o.Regs)
			if err != nil || r.Spills != c.Spills() {
				t.Fatal(err)
			}
			points := c.Points()
			k := 0
			for _, b := range r.Order {
				for _, n := range f.Blocks[b].Body {
					if f.Nodes[n].State < 0 {
						continue
					}
					checkPoint(t, f, r, n, points[k])
					virtual += len(points[k].State.Virtuals)
					beneath += len(points[k].Beneath)
					k++
				}
			}
			if k != len(points) {
				t.Fatal("points", k, len(points))
			}
		}
	}
	if virtual < 100 || beneath < 100 {
		t.Error(virtual, beneath)
	}
}

func TestTogether(t *testing.T) {
	v := sample.Program(5)
	c, err := Compile(v, 0, 0, script.Unpack(15+64))
	if err != nil {
		t.Fatal(err)
	}
	var w sync.WaitGroup
	for range 8 {
		w.Go(func() {
			for _, p := range c.Points() { // each list is new memory
				for i := range p.Places {
					p.Places[i]--
				}
				for i := range p.State.Locals {
					p.State.Locals[i]--
				}
				for _, s := range p.Beneath {
					for i := range s.Locals {
						s.Locals[i]--
					}
				}
			}
			c.Text()
			c.Method()
		})
	}
	w.Wait()
	again, _ := Compile(v, 0, 0, script.Unpack(15+64))
	if !reflect.DeepEqual(c.Points(), again.Points()) || c.Text() != again.Text() {
		t.Error("memory is shared")
	}
}
