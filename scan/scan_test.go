package scan

import (
	"bytes"
	"errors"
	"testing"

	"overdrive/api"
)

func TestRead(t *testing.T) {
	r := New([]byte{172, 2, 'x', 5, 7})
	if n := r.Number(0, 300); n != 300 || !r.Good() || !r.More() {
		t.Error(n)
	}
	if x := r.Byte(func(x byte) bool { return x == 'x' }); x != 'x' {
		t.Error(x)
	}
	if n := r.Wide(); n != 5 {
		t.Error(n)
	}
	var at *api.At
	if err := r.End(); !errors.As(err, &at) || *at != (api.At{Pos: 4, Err: api.ErrByte}) || r.More() || r.Err() != err {
		t.Error(err)
	}
	if n := r.Number(0, 9); n != 0 {
		t.Error("read on", n)
	}
}

func TestRefuse(t *testing.T) {
	high := bytes.Repeat([]byte{255}, 9)
	number := func(r *Reader) { r.Number(2, 9) }
	letter := func(r *Reader) { r.Byte(func(x byte) bool { return x == 'I' }) }
	for i, x := range []struct {
		b    []byte
		read func(r *Reader)
		want api.At
	}{
		{nil, number, api.At{Pos: 0, Err: api.ErrEnd}}, {[]byte{1}, number, api.At{Pos: 0, Err: api.ErrByte}}, {[]byte{10}, number, api.At{Pos: 0, Err: api.ErrByte}}, {[]byte{130, 0}, number, api.At{Pos: 0, Err: api.ErrByte}},
		{high, number, api.At{Pos: 9, Err: api.ErrEnd}}, {append(bytes.Clone(high), 255), number, api.At{Pos: 0, Err: api.ErrByte}}, {append(bytes.Clone(high), 2), number, api.At{Pos: 0, Err: api.ErrByte}},
		{nil, letter, api.At{Pos: 0, Err: api.ErrEnd}}, {[]byte("R"), letter, api.At{Pos: 0, Err: api.ErrByte}},
	} {
		r := New(x.b)
		x.read(r)
		var at *api.At
		if !errors.As(r.Err(), &at) || *at != x.want || r.Good() {
			t.Error(i, r.Err())
		}
	}
}
