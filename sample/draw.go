package sample

import (
	"strings"

	"overdrive/api"
)

// writer writes a method: statements whose expressions leave what they are asked for on the stack.
type writer struct {
	d       *Dice
	program *api.Program
	kinds   string
	code    []api.Instr
	height  int // of the stack, as far as it matters for how deep expressions go
	spare   int // how many instructions may still come
}

// draw is a program that verify takes most often.
func draw(d *Dice) api.Program {
	p := api.Program{Methods: []api.Method{{Ret: "I", Locals: letters(d, 1+d.Roll(6))}}}
	for range 1 + d.Roll(3) {
		p.Classes = append(p.Classes, api.Class{Fields: "I" + letters(d, d.Roll(3)) + "R"})
	}
	for range d.Roll(4) {
		p.Methods = append(p.Methods, api.Method{Params: letters(d, d.Roll(4)), Locals: letters(d, d.Roll(4)), Ret: []string{"", "I", "R"}[d.Roll(3)]})
	}
	for m := range p.Methods {
		x := &p.Methods[m]
		w := &writer{d: d, program: &p, kinds: x.Params + x.Locals, spare: 20 + d.Roll(70)}
		for i := range w.kinds {
			if w.kinds[i] == 'R' && i >= len(x.Params) && d.Roll(5) > 0 {
				w.fresh(d.Roll(len(p.Classes)))
				w.put(api.Store, i, 0)
			}
		}
		w.body(3)
		if x.Ret != "" {
			w.value(x.Ret[0], 2)
		}
		w.put(api.Ret, 0, 0)
		x.Code = w.code
	}
	return p
}

func letters(d *Dice, n int) string {
	var b strings.Builder
	for range n {
		b.WriteByte("IIR"[d.Roll(3)])
	}
	return b.String()
}

func (w *writer) put(op, a, b int) int {
	w.code = append(w.code, api.Instr{Op: op, A: a, B: b})
	w.spare--
	return len(w.code) - 1
}

func (w *writer) number(n int64) { w.code[w.put(api.Const, 0, 0)].N = n }

func (w *writer) here(at int) { w.code[at].A = len(w.code) }

func (w *writer) body(depth int) {
	for range 1 + w.d.Roll(4) {
		if w.spare < 20 {
			return
		}
		w.statement(depth)
	}
}

func (w *writer) statement(depth int) {
	switch k := w.d.Roll(10); {
	case k < 3 && w.kinds != "":
		i := w.d.Roll(len(w.kinds))
		w.value(w.kinds[i], 2)
		w.put(api.Store, i, 0)
	case k == 3:
		w.value('I', 2)
		w.put(api.Out, 0, 0)
	case k == 4:
		w.store()
	case k == 5:
		w.invoke("IR"[w.d.Roll(2)], true)
	case k == 6 && depth > 0:
		w.value('I', 2)
		at := w.put(api.Zero, 0, 0)
		w.body(depth - 1)
		w.here(at)
	case k == 7 && depth > 0:
		w.value('I', 1)
		at := w.put(api.Zero, 0, 0)
		w.body(depth - 1)
		end := w.put(api.Jump, 0, 0)
		w.here(at)
		w.body(depth - 1)
		w.here(end)
	case k >= 8 && depth > 0:
		w.loop(depth)
	}
}

func (w *writer) loop(depth int) {
	head := len(w.code)
	if w.d.Roll(2) == 0 {
		w.body(depth - 1)
		w.value('I', 1)
		w.put(api.Zero, head, 0)
		return
	}
	w.value('I', 2)
	at := w.put(api.Zero, 0, 0)
	w.body(depth - 1)
	w.put(api.Jump, head, 0)
	w.here(at)
}

func (w *writer) class() (int, string) {
	c := w.d.Roll(len(w.program.Classes))
	return c, w.program.Classes[c].Fields
}

// store is a Put or a Set.
func (w *writer) store() {
	if w.d.Roll(4) == 0 {
		a := w.d.Roll(2)
		w.number(int64(w.d.Roll(5)))
		w.put(api.Array, a, 0)
		w.put(api.Dup, 0, 0)
		w.value('I', 0)
		w.value("IR"[a], 1)
		w.put(api.Set, a, 0)
		w.keep()
		return
	}
	c, fields := w.class()
	b := w.d.Roll(len(fields))
	w.object(c)
	w.value(fields[b], 1)
	w.put(api.Put, c, b)
}

// keep stores a reference on the stack in a local that takes one, or pops it.
func (w *writer) keep() {
	if i := strings.IndexByte(w.kinds, 'R'); i >= 0 && w.d.Roll(2) == 0 {
		w.put(api.Store, i, 0)
		return
	}
	w.put(api.Pop, 0, 0)
}

func (w *writer) fresh(class int) { w.put(api.New, class, 0) }

// object is a reference that is likely one of that class.
func (w *writer) object(class int) {
	if w.d.Roll(3) > 0 && w.load('R') {
		return
	}
	w.fresh(class)
}

func (w *writer) load(kind byte) bool {
	if strings.IndexByte(w.kinds, kind) < 0 {
		return false
	}
	for {
		if i := w.d.Roll(len(w.kinds)); w.kinds[i] == kind {
			w.put(api.Load, i, 0)
			return true
		}
	}
}

// value leaves a value of that kind on the stack.
func (w *writer) value(kind byte, depth int) {
	w.height++
	defer func() { w.height-- }()
	if w.spare < 12 || w.height > 6 {
		depth = 0
	}
	if kind == 'I' {
		w.integer(depth)
	} else {
		w.reference(depth)
	}
}

func (w *writer) integer(depth int) {
	k := w.d.Roll(14)
	if depth == 0 {
		k = w.d.Roll(3)
	}
	switch {
	case k < 2 && w.load('I'):
	case k < 3:
		w.number(number(w.d))
	case k < 7:
		w.value('I', depth-1)
		w.value('I', depth-1)
		w.put([]int{api.Add, api.Sub, api.Mul, api.Div, api.Rem, api.And, api.Or, api.Xor, api.Shl, api.Shr, api.Lt, api.Eq, api.Lt, api.Eq, api.Add}[w.d.Roll(15)], 0, 0)
	case k == 7:
		w.value('I', depth-1)
		w.put(api.Neg, 0, 0)
	case k == 8:
		w.value('R', depth-1)
		w.value('R', depth-1)
		w.put(api.Same, 0, 0)
	case k == 9:
		c, _ := w.class()
		w.value('R', depth-1)
		w.put(api.Is, c, 0)
	case k == 10:
		w.put(api.In, 0, 0)
	case k == 11:
		w.invoke('I', false)
	case k == 12:
		w.either('I', depth)
	default:
		w.get('I', depth)
	}
}

func (w *writer) reference(depth int) {
	k := w.d.Roll(10)
	if depth == 0 {
		k = w.d.Roll(4)
	}
	switch {
	case k < 3 && w.load('R'):
	case k < 4 || k == 5:
		c, _ := w.class()
		w.fresh(c)
	case k == 4:
		w.put(api.Null, 0, 0)
	case k == 6:
		w.value('I', 0)
		w.put(api.Array, w.d.Roll(2), 0)
	case k == 7:
		w.invoke('R', false)
	case k == 8:
		w.either('R', depth)
	default:
		w.get('R', depth)
	}
}

// either is one of two values, with what lies beneath it left on the stack.
func (w *writer) either(kind byte, depth int) {
	w.value('I', depth-1)
	at := w.put(api.Zero, 0, 0)
	w.value(kind, depth-1)
	end := w.put(api.Jump, 0, 0)
	w.here(at)
	w.value(kind, depth-1)
	w.here(end)
}

// get reads a field of that kind, or now and then an array.
func (w *writer) get(kind byte, depth int) {
	c, fields := w.class()
	b := strings.IndexByte(fields, kind)
	if w.d.Roll(5) == 0 {
		w.number(int64(1 + w.d.Roll(3)))
		a := strings.IndexByte("IR", kind)
		w.put(api.Array, a, 0)
		if kind == 'I' && w.d.Roll(2) == 0 {
			w.put(api.Len, 0, 0)
			return
		}
		w.value('I', 0)
		w.put(api.Elem, a, 0)
		return
	}
	w.object(c)
	if depth > 1 && w.d.Roll(3) == 0 {
		w.put(api.Dup, 0, 0)
		w.value(fields[b], 0)
		if w.d.Roll(2) == 0 {
			w.put(api.Put, c, b)
		} else {
			w.put(api.Pop, 0, 0)
			w.put(api.Swap, 0, 0)
			w.put(api.Pop, 0, 0)
		}
	}
	w.put(api.Get, c, b)
}

// invoke calls a method that answers that kind, if there is one, or, if anything will do, any.
func (w *writer) invoke(kind byte, any bool) {
	n := len(w.program.Methods)
	for range 4 {
		m := 1 + w.d.Roll(n-1)
		if n == 1 || !any && w.program.Methods[m].Ret != string(kind) {
			continue
		}
		for _, p := range w.program.Methods[m].Params {
			w.value(byte(p), 0)
		}
		w.put(api.Call, m, 0)
		if any && w.program.Methods[m].Ret != "" {
			w.put(api.Pop, 0, 0)
		}
		return
	}
	if !any {
		w.value(kind, 0)
	}
}
