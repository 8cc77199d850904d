package vm

import (
	"errors"
	"reflect"
	"slices"
	"testing"

	"overdrive/api"
	"overdrive/codec"
	"overdrive/heap"
	"overdrive/interp"
	"overdrive/live"
	"overdrive/model"
	"overdrive/prog"
	"overdrive/sample"
	"overdrive/script"
	"overdrive/verify"
)

var in = sample.In

func info(t *testing.T, locals string, main []api.Instr, more ...api.Method) *verify.Info {
	t.Helper()
	v, err := verify.Of(api.Program{Classes: []api.Class{{Fields: "IR"}}, Methods: append([]api.Method{{Locals: locals, Ret: "I", Code: main}}, more...)})
	if err != nil {
		t.Fatal(err)
	}
	return v
}

var roomy = interp.Limits{Heap: 4000, Nursery: 100, Stack: 4000}

func of(t *testing.T, v *verify.Info, input []int64, fuel int, l interp.Limits, picks ...api.Pick) *VM {
	t.Helper()
	m, err := New(v, input, fuel, l, picks)
	if err != nil {
		t.Fatal(err)
	}
	return m
}

// loop counts local 0 up to 100, and calls a method that adds it to a field of a new object each time.
func loop(t *testing.T) *verify.Info {
	t.Helper()
	return info(t, "IR", []api.Instr{
		in(api.Load, 0), in(api.Load, 1), in(api.Call, 1), in(api.Store, 1), // 0
		in(api.Load, 0), in(api.Const, 1), in(api.Add), in(api.Store, 0), // 4
		in(api.Load, 0), in(api.Const, 100), in(api.Lt), in(api.Zero, 13), in(api.Jump, 0), // 8
		in(api.Load, 1), in(api.Get, 0, 0), in(api.Ret), // 13
	}, api.Method{Params: "IR", Locals: "R", Ret: "R", Code: []api.Instr{
		in(api.New, 0), in(api.Store, 2), in(api.Load, 2), in(api.Load, 0), in(api.Load, 1), in(api.Null), in(api.Same), in(api.Zero, 12), in(api.Load, 0), in(api.Pop), in(api.Const, 0), in(api.Jump, 14),
		in(api.Load, 1), in(api.Get, 0, 0), in(api.Add), in(api.Put, 0, 0), in(api.Load, 2), in(api.Ret),
	}})
}

func TestExample(t *testing.T) {
	v := loop(t)
	want, _ := model.Run(v, nil, 400)
	picks := []api.Pick{{At: 0, Act: api.Up, A: 1, B: 31}, {At: 5, Act: api.Down}, {At: 6, Act: api.Major}, {At: 11, Act: api.Replace, B: 31}}
	m := of(t, v, nil, 400, roomy, picks...)
	o := m.Run()
	if !reflect.DeepEqual(o, want) || o.Kind != api.Done || o.Value != 4950 || !reflect.DeepEqual(m.Run(), want) {
		t.Error(o, want)
	}
	n := m.Tally()
	if n.Compiled < 80 || n.Majors < 1 || n.Points < 200 || n.Downs+n.Ignored < 1 {
		t.Error(n)
	}
}

// TestPicks counts what each pick did. Of the loop the safepoints are, round by round: Call, New, Jump.
func TestPicks(t *testing.T) {
	v := loop(t)
	want, _ := model.Run(v, nil, 400)
	up := api.Pick{Act: api.Up, A: 1, B: 480}
	at := func(k api.Pick, n int) api.Pick { k.At = n; return k }
	down, replace := api.Pick{Act: api.Down}, api.Pick{Act: api.Replace, B: 480}
	for i, x := range []struct {
		picks []api.Pick
		want  Tally
	}{
		{nil, Tally{Points: 299}},
		{[]api.Pick{at(api.Pick{Act: api.Minor}, 0), at(api.Pick{Act: api.Major}, 0)}, Tally{Points: 299, Minors: 1, Majors: 1}},
		{[]api.Pick{at(down, 0), at(down, 1), at(replace, 0+1), at(replace, 3)}, Tally{Points: 299, Ignored: 4}},
		{[]api.Pick{at(up, 3)}, Tally{Points: 299, Compiled: 99}},
		{[]api.Pick{at(api.Pick{Act: api.Up, A: 2, B: 480}, 3)}, Tally{Points: 299, Ignored: 1}},
		// the New that is given up is come to again, by the instruction
		{[]api.Pick{at(up, 0), at(down, 1), at(down, 2)}, Tally{Points: 300, Compiled: 100, Downs: 1, Ignored: 1}},
		{[]api.Pick{at(up, 0), at(down, 1), at(replace, 1)}, Tally{Points: 300, Compiled: 100, Downs: 1, Ignored: 1}},
		// local 1 is asked for at 0, and is no parameter: there it can't be entered
		{[]api.Pick{at(replace, 2)}, Tally{Points: 299, Ignored: 1}},
		{[]api.Pick{at(up, 290), at(up, 299), at(up, 500)}, Tally{Points: 299, Compiled: 3}},
	} {
		m := of(t, v, nil, 400, interp.Limits{Heap: 8000, Nursery: 2000, Stack: 99}, x.picks...)
		if o := m.Run(); !reflect.DeepEqual(o, want) || m.Tally() != x.want {
			t.Error(i, o, m.Tally())
		}
	}
}

// later is a loop that is entered behind its first instructions, so that it can be replaced.
func later(t *testing.T) *verify.Info {
	t.Helper()
	return info(t, "IRR", []api.Instr{
		in(api.New, 0), in(api.Store, 2), in(api.Null), in(api.Store, 1), // 0
		in(api.New, 0), in(api.Store, 1), in(api.Load, 1), in(api.Load, 0), in(api.Put, 0, 0), // 4
		in(api.Load, 0), in(api.Const, 1), in(api.Add), in(api.Store, 0), // 9
		in(api.Load, 0), in(api.Const, 10), in(api.Lt), in(api.Zero, 18), in(api.Jump, 4), // 13
		in(api.Load, 1), in(api.Get, 0, 0), in(api.Ret), // 18
	})
}

func TestReplace(t *testing.T) {
	v := later(t)
	want, _ := model.Run(v, nil, 50)
	at := func(act, n int) api.Pick {
		k := api.Pick{At: n, Act: act}
		if act == api.Replace {
			k.B = 480
		}
		return k
	}
	// safepoints: New, then New, Jump for each round
	for i, x := range []struct {
		picks []api.Pick
		want  Tally
	}{
		{[]api.Pick{at(api.Replace, 2)}, Tally{Points: 20, Replaced: 1}},
		{[]api.Pick{at(api.Replace, 1), at(api.Replace, 2), at(api.Replace, 2)}, Tally{Points: 20, Replaced: 1, Ignored: 2}},
		{[]api.Pick{at(api.Replace, 2), at(api.Down, 2), at(api.Replace, 2), at(api.Down, 2)}, Tally{Points: 20, Replaced: 1, Downs: 1, Ignored: 2}},
		{[]api.Pick{at(api.Replace, 2), at(api.Major, 2), at(api.Minor, 2), at(api.Down, 2), at(api.Major, 2)}, Tally{Points: 20, Replaced: 1, Downs: 1, Majors: 2, Minors: 1}},
		{[]api.Pick{at(api.Replace, 2), at(api.Down, 3), at(api.Replace, 5), at(api.Down, 7)}, Tally{Points: 22, Replaced: 2, Downs: 2}},
		// the Poll that is given up is come to again as the Jump
		{[]api.Pick{at(api.Replace, 2), at(api.Down, 4), at(api.Replace, 4), at(api.Replace, 5)}, Tally{Points: 21, Replaced: 2, Downs: 1, Ignored: 1}},
	} {
		m := of(t, v, nil, 50, roomy, x.picks...)
		if o := m.Run(); !reflect.DeepEqual(o, want) || m.Tally() != x.want {
			t.Error(i, o, want, m.Tally())
		}
	}
	for fuel := range 10 {
		want, _ := model.Run(v, nil, fuel)
		for n := range 12 {
			m := of(t, v, nil, fuel, roomy, at(api.Replace, 2*n), at(api.Major, 2*n))
			if o := m.Run(); !reflect.DeepEqual(o, want) {
				t.Error(fuel, n, o, want)
			}
		}
	}
}

// TestGone asks that a reference in a local that is not asked for is nothing behind Replace.
func TestGone(t *testing.T) {
	v := later(t)
	var last Swap
	for i, picks := range [][]api.Pick{
		{{At: 2, Act: api.Major}},
		{{At: 2, Act: api.Replace, B: 480}, {At: 2, Act: api.Major}},
		{{At: 2, Act: api.Replace, B: 480}, {At: 2, Act: api.Down}, {At: 2, Act: api.Major}},
	} {
		m := of(t, v, nil, 50, roomy, picks...)
		m.Look(func(s Swap) { last = s })
		m.Run()
		if objects := []int{2, 0, 0}[i]; len(last.After) != objects || !last.Major {
			t.Error(picks, last)
		}
	}
}

func TestErrors(t *testing.T) {
	v := loop(t)
	bad := []api.Pick{{Act: 9}}
	for i, x := range []struct {
		fuel int
		l    interp.Limits
		want error
	}{{-1, interp.Limits{Heap: -1}, api.ErrLimit}, {api.MaxFuel + 1, roomy, api.ErrLimit}, {0, interp.Limits{Heap: -1}, api.ErrLimit}, {0, interp.Limits{Stack: -1}, api.ErrLimit}} {
		if m, err := New(v, nil, x.fuel, x.l, bad); m != nil || err != x.want {
			t.Error(i, err)
		}
	}
	var at *api.At
	if m, err := New(v, nil, 0, roomy, bad); m != nil || !errors.As(err, &at) || at.Err != api.ErrKind {
		t.Error(err)
	}
	if m, err := New(v, nil, 0, roomy, make([]api.Pick, api.MaxPicks+1)); m != nil || err != api.ErrMany {
		t.Error(err)
	}
	m := of(t, v, nil, 0, interp.Limits{Stack: 3}, api.Pick{Act: api.Major})
	if o := m.Run(); !reflect.DeepEqual(o, api.Outcome{Kind: api.Overflow}) || m.Tally() != (Tally{}) {
		t.Error(o)
	}
}

func TestBytes(t *testing.T) {
	v := loop(t)
	p, _ := codec.Encode(v.Program())
	s, _ := script.Print([]api.Pick{{At: 0, Act: api.Up, A: 1, B: 31}, {At: 7, Act: api.Down}})
	want, _ := model.Run(v, nil, 400)
	if o, err := Bytes(p, s, nil, 400, roomy); err != nil || !reflect.DeepEqual(o, want) {
		t.Error(o, err)
	}
	unsound, _ := codec.Encode(api.Program{Methods: []api.Method{{Code: []api.Instr{in(api.Add)}}}})
	for i, x := range []struct {
		p, s []byte
		fuel int
		want error
	}{{p[:9], s[:1], -1, api.ErrEnd}, {unsound, s[:1], -1, api.ErrStack}, {p, s[:1], -1, api.ErrEnd}, {p, []byte{0, 9}, -1, api.ErrKind}, {p, s, -1, api.ErrLimit}} {
		if o, err := Bytes(x.p, x.s, nil, x.fuel, roomy); !errors.Is(err, x.want) || !reflect.DeepEqual(o, api.Outcome{}) {
			t.Error(i, o, err)
		}
	}
}

// TestRoom gives up where there is no room for what is to be made.
func TestRoom(t *testing.T) {
	v := info(t, "R", []api.Instr{in(api.Const, 1), in(api.Call, 1), in(api.Ret)}, api.Method{Params: "I", Locals: "R", Ret: "I", Code: []api.Instr{
		in(api.New, 0), in(api.Store, 1), in(api.Load, 1), in(api.Load, 0), in(api.Call, 2), in(api.Put, 0, 0), in(api.Load, 1), in(api.Get, 0, 0), in(api.Ret)}},
		api.Method{Params: "I", Ret: "I", Code: []api.Instr{in(api.Load, 0), in(api.Const, 2), in(api.Array, 0), in(api.Pop), in(api.Ret)}})
	picks := []api.Pick{{Act: api.Up, A: 1, B: 1 + 8 + 480}, {At: 2, Act: api.Down}}
	words := v.Words(0) + v.Words(1)
	for i, x := range []struct {
		l    interp.Limits
		want api.Outcome
	}{
		{interp.Limits{Heap: 20, Stack: words + v.Words(2)}, api.Outcome{Kind: api.Done, Value: 1}},
		{interp.Limits{Heap: 8, Stack: words + v.Words(2)}, api.Outcome{Kind: api.Memory, Method: 2, PC: 2}},
		{interp.Limits{Heap: 6, Nursery: 4, Stack: words + v.Words(2)}, api.Outcome{Kind: api.Memory, Method: 2, PC: 2}},
		{interp.Limits{Heap: 20, Stack: words + v.Words(2) - 1}, api.Outcome{Kind: api.Overflow, Method: 2, PC: 2}},
	} {
		m := of(t, v, nil, 9, x.l, picks...)
		if o := m.Run(); !reflect.DeepEqual(o, x.want) {
			t.Error(i, o, m.Tally())
		}
	}
	// not given up there is room without them
	m := of(t, v, nil, 9, interp.Limits{Heap: 8, Stack: words}, picks[:1]...)
	if o := m.Run(); o.Kind != api.Done {
		t.Error(o)
	}
}

func all(int) bool { return true }

// checkSnap asks that each slot is told as what it is, and that the map names just the references of the frames and of what is not there.
func checkSnap(t *testing.T, v *verify.Info, s Snap) {
	t.Helper()
	var refs []int
	named := map[int64]int{}
	take := func(l []Val, kinds string, counts func(k int) bool) {
		if len(l) != len(kinds) {
			t.Fatal("slots", s)
		}
		for k, x := range l {
			switch {
			case !counts(k) && x != Val{}:
				t.Fatal("does not count", s)
			case counts(k) && x.Ref != (kinds[k] == 'R'):
				t.Fatal("letters", s)
			case x.Virtual:
				named[x.N]++
			case x.Ref && x.N != 0:
				refs = append(refs, int(x.N))
			}
		}
	}
	for i, f := range s.Frames {
		stack, is := v.Stack(f.Method, f.PC)
		asked := live.Of(v, f.Method).Locals(f.PC)
		if i+1 < len(s.Frames) {
			asked = live.Of(v, f.Method).Behind(f.PC)
			call := v.Program().Methods[f.Method].Code[f.PC]
			if call.Op != api.Call || call.A != s.Frames[i+1].Method {
				t.Fatal("beneath", s)
			}
			stack = stack[:len(stack)-len(v.Program().Methods[call.A].Params)]
		}
		if !is {
			t.Fatal("frame", s)
		}
		take(f.Locals, prog.Kinds(v.Program().Methods[f.Method]), func(k int) bool { return slices.Contains(asked, k) })
		take(f.Stack, stack, all)
	}
	for k, l := range s.Loose {
		take(l, v.Program().Classes[s.Virtuals[k].Class].Fields, all)
	}
	slices.Sort(refs)
	if refs = slices.Compact(refs); !slices.Equal(refs, s.Map) {
		t.Fatal("map", refs, s)
	}
	if len(named) != len(s.Virtuals) || len(s.Loose) != len(s.Virtuals) || !s.Compiled {
		t.Fatal("virtuals", s)
	}
}

// TestMeaning runs scripts of all kinds.
func TestMeaning(t *testing.T) {
	var sum Tally
	snaps, virtual, short := 0, 0, 0
	for seed := range uint64(800) {
		v := sample.Program(seed)
		d := sample.New(seed)
		input := sample.Inputs(seed)
		want, _ := model.Run(v, input, 100)
		words, stack, _ := model.Peak(v, input, 100)
		if heap.Least(v.Program(), words, 60) > api.MaxWords || stack > api.MaxWords {
			continue
		}
		for round := range uint64(3) {
			picks := sample.Picks(seed*3+round, len(v.Program().Methods))
			m := of(t, v, input, 100, interp.Enough(v, input, 100, words, stack, d.Roll(60)), picks...)
			if round > 0 {
				m.Watch(func(s Snap) {
					checkSnap(t, v, s)
					snaps++
					virtual += len(s.Virtuals)
				})
				m.Look(func(s Swap) {
					if !reflect.DeepEqual(s.Before, s.After) || !slices.Equal(s.Roots, s.Now) {
						t.Fatal(seed, s)
					}
				})
			}
			if o := m.Run(); !reflect.DeepEqual(o, want) {
				t.Fatal(seed, round, o, want)
			}
			n := m.Tally()
			sum.Downs += n.Downs
			sum.Replaced += n.Replaced
			sum.Compiled += n.Compiled
			sum.Minors += n.Minors
			sum.Majors += n.Majors
			m = of(t, v, input, 100, interp.Limits{Heap: words, Nursery: words / 4, Stack: stack * 3 / 4}, picks...)
			o := m.Run()
			if o.Kind == api.Memory || o.Kind == api.Overflow {
				short++
				if len(o.Out) > len(want.Out) || !slices.Equal(o.Out, want.Out[:len(o.Out)]) {
					t.Fatal(seed, o, want)
				}
			} else if !reflect.DeepEqual(o, want) {
				t.Fatal(seed, o, want)
			}
		}
	}
	t.Log(sum, snaps, virtual, short)
	if sum.Downs < 200 || sum.Replaced < 50 || sum.Compiled < 2000 || snaps < 2000 || virtual < 100 || short < 100 {
		t.Error(sum, snaps, virtual, short)
	}
}
