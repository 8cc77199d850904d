package deopt

import (
	"bytes"
	"errors"
	"math"
	"reflect"
	"slices"
	"testing"

	"overdrive/api"
	"overdrive/frames"
	"overdrive/gc"
	"overdrive/heap"
	"overdrive/sample"
	"overdrive/verify"
)

var in = sample.In

// info has a method that calls another one over what lies on its stack, and never gets to its last instruction.
func info(t *testing.T) *verify.Info {
	t.Helper()
	v, err := verify.Of(api.Program{
		Classes: []api.Class{{Fields: "R"}, {Fields: "IR"}},
		Methods: []api.Method{
			{Locals: "R", Ret: "I", Code: []api.Instr{in(api.Const), in(api.Null), in(api.Const), in(api.Load, 0), in(api.Call, 1), in(api.Pop), in(api.Pop), in(api.Ret), in(api.Ret)}},
			{Params: "IR", Locals: "I", Ret: "I", Code: []api.Instr{in(api.Load, 0), in(api.Ret)}},
		},
	})
	if err != nil {
		t.Fatal(err)
	}
	return v
}

func value(n int) Slot   { return Slot{Value, n} }
func object(n int) Slot  { return Slot{Object, n} }
func integer(n int) Slot { return Slot{Integer, n} }

// record is two frames over values I R I R, and two objects.
func record() Record {
	return Record{
		Frames: []Frame{
			{Method: 0, PC: 4, Locals: []Slot{object(0)}, Stack: []Slot{value(0), value(1)}},
			{Method: 1, PC: 1, Locals: []Slot{{}, value(3), integer(-7)}, Stack: []Slot{value(2)}},
		},
		Virtuals: []Virtual{{Class: 0, Fields: []Slot{object(1)}}, {Class: 1, Fields: []Slot{integer(5), object(0)}}},
	}
}

func TestMay(t *testing.T) {
	v := info(t)
	if err := May(v, record(), 4); err != nil {
		t.Error(err)
	}
	many := func(frames, virtuals int) Record {
		r := Record{Frames: slices.Repeat([]Frame{{PC: 0, Locals: []Slot{{}}}}, frames)}
		r.Virtuals = slices.Repeat([]Virtual{{Fields: []Slot{{}}}}, virtuals)
		return r
	}
	for i, x := range []struct {
		r    Record
		want error
	}{{Record{}, api.ErrMany}, {many(0, 1), api.ErrMany}, {many(21, 0), api.ErrMany}, {many(1, 51), api.ErrMany}, {many(1, 50), nil}, {many(20, 0), api.ErrShape}, {many(1, 0), nil}} {
		if err := May(v, x.r, 0); err != x.want {
			t.Error(i, err)
		}
	}
	for i, x := range []struct {
		change func(r *Record)
		want   error
	}{
		{func(r *Record) { r.Frames[0].Method = 2 }, api.ErrIndex},
		{func(r *Record) { r.Frames[0].Method = -1 }, api.ErrIndex},
		{func(r *Record) { r.Frames[1].PC = 2 }, api.ErrIndex},
		{func(r *Record) { r.Frames[0].PC = 8 }, api.ErrIndex},
		{func(r *Record) { r.Frames[0].PC = -1 }, api.ErrIndex},
		{func(r *Record) { r.Frames[0].PC = 3 }, api.ErrShape},
		{func(r *Record) { r.Frames[1].Method = 0 }, api.ErrShape},
		{func(r *Record) { r.Frames[1].Method = 7 }, api.ErrShape},
		{func(r *Record) { r.Frames[0].Locals = nil }, api.ErrShape},
		{func(r *Record) { r.Frames[0].Stack = append(r.Frames[0].Stack, Slot{}) }, api.ErrShape},
		{func(r *Record) { r.Frames[0].Stack = append(r.Frames[0].Stack, Slot{}, Slot{}) }, api.ErrShape},
		{func(r *Record) { r.Frames[1].Stack = nil }, api.ErrShape},
		{func(r *Record) { r.Frames = r.Frames[:1] }, api.ErrShape},
		{func(r *Record) { r.Frames[0].Locals[0].Kind = 4 }, api.ErrState},
		{func(r *Record) { r.Frames[0].Locals[0].Kind = -1 }, api.ErrState},
		{func(r *Record) { r.Frames[0].Locals[0] = Slot{N: 1} }, api.ErrState},
		{func(r *Record) { r.Frames[0].Locals[0] = object(2) }, api.ErrState},
		{func(r *Record) { r.Frames[0].Locals[0] = object(-1) }, api.ErrState},
		{func(r *Record) { r.Frames[0].Locals[0] = integer(0) }, api.ErrState},
		{func(r *Record) { r.Frames[0].Stack[0] = object(0) }, api.ErrState},
		{func(r *Record) { r.Frames[0].Stack[0] = value(4) }, api.ErrState},
		{func(r *Record) { r.Frames[0].Stack[0] = value(-1) }, api.ErrState},
		{func(r *Record) { r.Frames[1].Locals[0] = integer(math.MaxInt32 + 1) }, api.ErrState},
		{func(r *Record) { r.Frames[1].Locals[0] = integer(math.MinInt32 - 1) }, api.ErrState},
		{func(r *Record) { r.Frames[1].Locals[0] = integer(math.MinInt32) }, nil},
		{func(r *Record) { r.Frames[1].Locals[0] = integer(math.MaxInt32) }, nil},
		{func(r *Record) { r.Frames[0].Locals[0].Kind, r.Frames[1].PC = 9, 9 }, api.ErrState},
		{func(r *Record) { r.Frames[1].Stack[0].Kind, r.Virtuals[0].Class = 9, 9 }, api.ErrState},
		{func(r *Record) { r.Virtuals[0].Class = 2 }, api.ErrIndex},
		{func(r *Record) { r.Virtuals[0].Class = -1 }, api.ErrIndex},
		{func(r *Record) { r.Virtuals[0].Fields = nil }, api.ErrShape},
		{func(r *Record) { r.Virtuals[1].Fields[0] = object(0) }, api.ErrState},
		{func(r *Record) { r.Virtuals[1].Fields[1] = integer(0) }, api.ErrState},
		{func(r *Record) { r.Virtuals[1].Fields[1] = value(9) }, api.ErrState},
	} {
		r := record()
		x.change(&r)
		if err := May(v, r, 4); err != x.want {
			t.Error(i, err)
		}
		h, s := room(t, v, 100, 100)
		if err := Rebuild(v, h, s, r, values(h)); err != x.want || err != nil && (s.Len() != 0 || len(h.All()) != 1) {
			t.Error("rebuild", i, err)
		}
	}
	if May(v, record(), -1) != api.ErrState || May(v, record(), 3) != api.ErrState {
		t.Error("values")
	}
}

func room(t *testing.T, v *verify.Info, words, stack int) (*heap.Heap, *frames.Stack) {
	t.Helper()
	h, err := heap.New(v.Program(), words, 10)
	if err != nil {
		t.Fatal(err)
	}
	s, err := frames.New(v, stack)
	if err != nil {
		t.Fatal(err)
	}
	return h, s
}

// values is I R I R, of which one is an object of the nursery.
func values(h *heap.Heap) []frames.Slot {
	r, _ := h.Young(0, 0)
	return []frames.Slot{{N: 11}, {Ref: true}, {N: 22}, {Ref: true, N: int64(r)}}
}

func TestRebuild(t *testing.T) {
	v := info(t)
	h, s := room(t, v, 100, 100)
	l := values(h)
	if err := Rebuild(v, h, s, record(), l); err != nil {
		t.Fatal(err)
	}
	m, pc, locals, stack, _ := s.At(0)
	if m != 0 || pc != 5 || !locals[0].Ref || !slices.Equal(stack, l[:2]) {
		t.Error(m, pc, locals, stack)
	}
	m, pc, above, stack, _ := s.At(1)
	if m != 1 || pc != 1 || !slices.Equal(above, []frames.Slot{{}, l[3], {N: -7}}) || !slices.Equal(stack, l[2:3]) || s.Len() != 2 {
		t.Error(m, pc, above, stack)
	}
	objects, at := h.Shape([]int{int(locals[0].N)})
	if !reflect.DeepEqual(objects, []api.Object{{Class: 0, Vals: []int64{1}}, {Class: 1, Vals: []int64{5, 0}}}) || at[0] != 0 || h.InYoung(int(locals[0].N)) {
		t.Error(objects)
	}
	if !gc.Verify(h, s.Roots()) {
		t.Error("verify")
	}
}

// TestItself is the chapter's example; a young one in a field marks the object, and a none stands on the stack.
func TestItself(t *testing.T) {
	v := info(t)
	h, s := room(t, v, 100, 100)
	r := Record{Frames: []Frame{{Locals: []Slot{object(0)}}}, Virtuals: []Virtual{{Fields: []Slot{object(0)}}}}
	if err := Rebuild(v, h, s, r, nil); err != nil {
		t.Fatal(err)
	}
	x, _ := s.Local(0)
	if f, _ := h.Get(int(x.N), 0); f != x.N || !x.Ref {
		t.Error(f, x)
	}
	if _, pc, _ := s.Top(); pc != 0 {
		t.Error(pc)
	}
	l := values(h)
	r = Record{Frames: []Frame{{PC: 2, Locals: []Slot{object(0)}, Stack: []Slot{{}, {}}}}, Virtuals: []Virtual{{Fields: []Slot{value(3)}}}}
	if err := Rebuild(v, h, s, r, l); err != nil || !gc.Verify(h, s.Roots()) || len(h.Marked()) != 1 {
		t.Error(err, h.Marked())
	}
	if _, _, _, stack, _ := s.At(1); !slices.Equal(stack, []frames.Slot{{}, {Ref: true}}) {
		t.Error(stack)
	}
}

func TestRebuildRefuses(t *testing.T) {
	v := info(t)
	for i, change := range []func(l []frames.Slot){
		func(l []frames.Slot) { l[0].Ref = true }, func(l []frames.Slot) { l[1].Ref = false }, func(l []frames.Slot) { l[3].N++ }, func(l []frames.Slot) { l[3].N = -1 }, func(l []frames.Slot) { l[1].N = 99 },
	} {
		h, s := room(t, v, 100, 100)
		l := values(h)
		change(l)
		if err := Rebuild(v, h, s, record(), l); err != api.ErrState || s.Len() != 0 || len(h.All()) != 1 {
			t.Error(i, err)
		}
	}
	r := record()
	r.Virtuals[1].Fields[1] = value(0)
	h, s := room(t, v, 100, 100)
	if err := Rebuild(v, h, s, r, values(h)); err != api.ErrState {
		t.Error("a field", err)
	}
	// 9 and 8 words of frames, 3 and 4 of objects in a half
	for _, x := range []struct {
		words, stack int
		want         error
	}{{24, 17, nil}, {23, 17, api.ErrRoom}, {24, 16, api.ErrRoom}, {10, 0, api.ErrRoom}} {
		h, s := room(t, v, x.words, x.stack)
		l := values(h)
		if err := Rebuild(v, h, s, record(), l); err != x.want || err != nil && (s.Len() != 0 || s.Words() != 0 || len(h.All()) != 1) {
			t.Error(x, err, s.Words())
		}
	}
}

func TestBytes(t *testing.T) {
	b, err := Bytes(record())
	want := []byte{2, 0, 4, 1, 2, 0, 2, 1, 0, 1, 1, 1, 1, 3, 0, 0, 1, 3, 3, 13, 1, 1, 2, 2, 0, 1, 2, 1, 1, 2, 3, 10, 2, 0}
	if err != nil || !bytes.Equal(b, want) {
		t.Error(b, err)
	}
	long := make([]Slot, 201)
	for i, x := range []struct {
		r    Record
		want error
	}{
		{Record{Frames: make([]Frame, 201)}, api.ErrMany}, {Record{Virtuals: make([]Virtual, 201)}, api.ErrMany}, {Record{Frames: []Frame{{Method: -1, Locals: long}}}, api.ErrMany}, {Record{Frames: []Frame{{Stack: long}}}, api.ErrMany}, {Record{Virtuals: []Virtual{{Fields: long, Class: -1}}}, api.ErrMany},
		{Record{Frames: []Frame{{Method: -1}}}, api.ErrState}, {Record{Frames: []Frame{{PC: math.MaxInt32 + 1}}}, api.ErrState}, {Record{Virtuals: []Virtual{{Class: -1}}}, api.ErrState},
		{Record{Frames: []Frame{{Locals: []Slot{{-1, 0}}}}}, api.ErrState}, {Record{Frames: []Frame{{Stack: []Slot{value(-1)}}}}, api.ErrState}, {Record{Frames: []Frame{{Stack: []Slot{integer(math.MinInt32 - 1)}}}}, api.ErrState}, {Record{Frames: []Frame{{Stack: []Slot{integer(math.MaxInt32 + 1)}}}}, api.ErrState},
		{Record{}, nil}, {Record{Frames: make([]Frame, 200), Virtuals: []Virtual{{Fields: long[:200]}}}, nil}, {Record{Frames: []Frame{{Method: math.MaxInt32, Locals: []Slot{{9, math.MaxInt32}, integer(math.MinInt32), integer(math.MaxInt32)}}}}, nil},
	} {
		b, err := Bytes(x.r)
		if err != x.want || err != nil && b != nil {
			t.Error(i, err)
		}
		if err == nil {
			if r, err := Read(b); err != nil || !same(r, x.r) {
				t.Error(i, r, err)
			}
		}
	}
}

// same holds two records against one another by their bytes.
func same(a, b Record) bool {
	x, err := Bytes(a)
	y, err2 := Bytes(b)
	return err == nil && err2 == nil && bytes.Equal(x, y) && len(a.Frames) == len(b.Frames) && len(a.Virtuals) == len(b.Virtuals)
}

func TestRead(t *testing.T) {
	b, _ := Bytes(record())
	if r, err := Read(b); err != nil || !reflect.DeepEqual(r, record()) {
		t.Error(r, err)
	}
	wantAt := func(b []byte, pos int, kind error) {
		t.Helper()
		r, err := Read(b)
		var at *api.At
		if !errors.As(err, &at) || *at != (api.At{Pos: pos, Err: kind}) || !reflect.DeepEqual(r, Record{}) {
			t.Error(b, err, pos, kind)
		}
	}
	for k := range b {
		wantAt(b[:k], k, api.ErrEnd)
	}
	wantAt(append(slices.Clone(b), 0), len(b), api.ErrByte)
	wantAt([]byte{201, 1}, 0, api.ErrByte)
	wantAt([]byte{128, 0}, 0, api.ErrByte)
	wantAt([]byte{0, 201, 1}, 1, api.ErrByte)
	wantAt([]byte{1, 128, 128, 128, 128, 8}, 1, api.ErrByte)
	wantAt([]byte{1, 0, 128, 128, 128, 128, 8}, 2, api.ErrByte)
	wantAt([]byte{1, 0, 0, 201, 1}, 3, api.ErrByte)
	wantAt([]byte{1, 0, 0, 1, 3, 128, 128, 128, 128, 16}, 5, api.ErrByte)
	wantAt([]byte{1, 0, 0, 1, 1, 128, 128, 128, 128, 8}, 5, api.ErrByte)
	wantAt([]byte{1, 0, 0, 1, 1, 128, 128, 128, 128}, 9, api.ErrEnd)
	wantAt(append([]byte{0}, bytes.Repeat([]byte{255}, 10)...), 1, api.ErrByte)
	wantAt(append([]byte{0}, bytes.Repeat([]byte{255}, 9)...), 10, api.ErrEnd)
	if r, err := Read([]byte{1, 0, 0, 1, 3, 255, 255, 255, 255, 15, 0, 0}); err != nil || r.Frames[0].Locals[0] != integer(math.MinInt32) {
		t.Error(r, err)
	}
}

// TestReadAny changes bytes: what is read then is just these.
func TestReadAny(t *testing.T) {
	b, _ := Bytes(record())
	d := sample.New(1)
	read := 0
	for range 20000 {
		c := slices.Clone(b)
		for range 1 + d.Roll(3) {
			c[d.Roll(len(c))] = byte(d.Roll(256))
		}
		if r, err := Read(c); err == nil {
			read++
			if back, err := Bytes(r); err != nil || !bytes.Equal(back, c) {
				t.Fatal(c, back, err)
			}
		}
	}
	if read < 1000 {
		t.Error(read)
	}
}
