package codec

import (
	"bytes"
	"errors"
	"math"
	"strings"
	"testing"

	"overdrive/api"
	"overdrive/prog"
	"overdrive/word"
)

func tiny() api.Program {
	return api.Program{Methods: []api.Method{{Ret: "I", Code: []api.Instr{{Op: api.Const, N: 1}, {Op: api.Ret}}}}}
}

// full has each instruction once.
func full() api.Program {
	var l []api.Instr
	for op := api.Const; op <= api.Out; op++ {
		i := api.Instr{Op: op}
		if a, b, n := prog.UsesFields(op); a {
			i.A = 1
			if b {
				i.B = 1
			}
		} else if n {
			i.N = math.MinInt64
		}
		l = append(l, i)
	}
	return api.Program{
		Classes: []api.Class{{}, {Fields: "IR"}},
		Methods: []api.Method{tiny().Methods[0], {Params: "IR", Locals: "R", Ret: "R", Code: l}, {Locals: strings.Repeat("I", 12), Code: l[10:11]}},
	}
}

func wantAt(t *testing.T, b []byte, pos int, kind error) {
	t.Helper()
	p, err := Decode(b)
	var at *api.At
	if !errors.As(err, &at) || *at != (api.At{Pos: pos, Err: kind}) {
		t.Errorf("%v: %v, want %d %v", b, err, pos, kind)
	}
	if !prog.Same(p, api.Program{}) {
		t.Error("a program beside an error")
	}
}

func TestEncode(t *testing.T) {
	b, err := Encode(tiny())
	if err != nil || !bytes.Equal(b, []byte{'O', 'D', 1, 0, 1, 0, 0, 'I', 2, 1, 2, 33}) {
		t.Error(b, err)
	}
	if b, err := Encode(api.Program{}); b != nil || err != api.ErrMany {
		t.Error(b, err)
	}
	bad := tiny()
	bad.Methods[0].Code[1].A = 5
	var w *api.Where
	if b, err := Encode(bad); b != nil || !errors.As(err, &w) || *w != (api.Where{PC: 1, Err: api.ErrIndex}) {
		t.Error(b, err)
	}
}

func TestRoundTrip(t *testing.T) {
	for _, p := range []api.Program{tiny(), full()} {
		b, err := Encode(p)
		if err != nil {
			t.Fatal(err)
		}
		q, err := Decode(b)
		if err != nil || !prog.Same(p, q) {
			t.Error(err, q)
		}
		for k := range b {
			wantAt(t, b[:k], k, api.ErrEnd)
		}
		wantAt(t, append(bytes.Clone(b), 0), len(b), api.ErrByte)
	}
}

// TestAnyByte changes each byte to each other: what is read then is just these bytes.
func TestAnyByte(t *testing.T) {
	b, _ := Encode(full())
	for k := range b {
		for x := range 256 {
			c := bytes.Clone(b)
			c[k] = byte(x)
			p, err := Decode(c)
			if err != nil {
				continue
			}
			if d, err := Encode(p); err != nil || !bytes.Equal(c, d) {
				t.Fatal(k, x, err)
			}
		}
	}
}

func TestDecodeRefuses(t *testing.T) {
	head := []byte{'O', 'D', 1}
	with := func(l ...byte) []byte { return append(bytes.Clone(head), l...) }
	for _, x := range []struct {
		b    []byte
		pos  int
		kind error
	}{
		{nil, 0, api.ErrEnd}, {[]byte("O"), 1, api.ErrEnd}, {[]byte("X"), 0, api.ErrByte}, {[]byte("OX"), 1, api.ErrByte}, {[]byte{'O', 'D', 2}, 2, api.ErrByte},
		{with(13), 3, api.ErrByte}, {with(128), 4, api.ErrEnd}, {with(128, 0), 3, api.ErrByte}, {with(1, 11), 4, api.ErrByte}, {with(1, 1, 'X'), 5, api.ErrByte}, {with(1, 2, 'I', 'x'), 6, api.ErrByte},
		{with(0, 0), 4, api.ErrByte}, {with(0, 13), 4, api.ErrByte},
		{with(0, 1, 13), 5, api.ErrByte}, {with(0, 1, 0, 13), 6, api.ErrByte}, {with(0, 1, 1, 'I', 12), 7, api.ErrByte}, {with(0, 1, 0, 1, 0), 7, api.ErrByte},
		{with(0, 1, 0, 0, 'X'), 7, api.ErrByte}, {with(0, 1, 0, 0, 0, 0), 8, api.ErrByte}, {with(0, 1, 0, 0, 0, 121), 8, api.ErrByte}, {with(0, 1, 0, 0, 0, 1, 0), 9, api.ErrByte}, {with(0, 1, 0, 0, 0, 1, 36), 9, api.ErrByte},
		{with(0, 1, 0, 0, 0, 1, api.Load, 129, 128, 64), 10, api.ErrByte},
		{with(0, 1, 0, 0, 0, 1, api.Get, 0, 129, 128, 64), 11, api.ErrByte},
		{with(0, 1, 0, 0, 0, 1, api.Const, 255, 255, 255, 255, 255, 255, 255, 255, 255), 19, api.ErrEnd},
		{with(0, 1, 0, 0, 0, 1, api.Const, 255, 255, 255, 255, 255, 255, 255, 255, 255, 2), 10, api.ErrByte},
		{with(0, 1, 0, 0, 0, 1, api.Const, 255, 255, 255, 255, 255, 255, 255, 255, 255, 255), 10, api.ErrByte},
	} {
		wantAt(t, x.b, x.pos, x.kind)
	}
}

func TestDecodeAsksMay(t *testing.T) {
	for _, x := range []struct {
		tail []byte
		want api.Where
	}{
		{[]byte{0, 1, 0, 0, 'R', 1, api.Ret}, api.Where{PC: -1, Err: api.ErrKind}},
		{[]byte{0, 1, 0, 0, 0, 1, api.Load, 128, 128, 64}, api.Where{Err: api.ErrIndex}},
		{[]byte{0, 1, 0, 0, 0, 1, api.Jump, 1}, api.Where{Err: api.ErrTarget}},
	} {
		_, err := Decode(append([]byte{'O', 'D', 1}, x.tail...))
		var w *api.Where
		if !errors.As(err, &w) || *w != x.want {
			t.Error(x.tail, err)
		}
	}
}

func TestMostBytes(t *testing.T) {
	b, _ := Encode(tiny())
	if _, err := Decode(append(b, make([]byte, api.MaxBytes-len(b)+1)...)); err != api.ErrMany {
		t.Error(err)
	}
	wantAt(t, append(b, make([]byte, api.MaxBytes-len(b))...), len(b), api.ErrByte)
}

func TestBytesAreNew(t *testing.T) {
	a, _ := Encode(tiny())
	b, _ := Encode(tiny())
	a[0] = 0
	if b[0] != 'O' {
		t.Error("memory is shared")
	}
	if b := word.Put(nil, word.Zig(-1)); b[0] != 1 {
		t.Error(b)
	}
}
