package script

import (
	"bytes"
	"errors"
	"math"
	"slices"
	"testing"

	"overdrive/api"
	"overdrive/sample"
)

func wantAt(t *testing.T, what any, err error, pos int, kind error) {
	t.Helper()
	var at *api.At
	if !errors.As(err, &at) || *at != (api.At{Pos: pos, Err: kind}) {
		t.Error(what, err, pos, kind)
	}
}

func TestMay(t *testing.T) {
	ok := api.Pick{At: 3, Act: api.Minor}
	for _, x := range []struct {
		k    api.Pick
		kind error
	}{
		{api.Pick{At: -1}, api.ErrKind}, {api.Pick{At: 3, Act: 6}, api.ErrKind}, {api.Pick{At: 3, Act: -1}, api.ErrKind},
		{api.Pick{At: -1, Act: 1}, api.ErrIndex}, {api.Pick{At: 1<<20 + 1, Act: 1}, api.ErrIndex},
		{api.Pick{At: 3, Act: api.Minor, A: 1}, api.ErrIndex}, {api.Pick{At: 3, Act: api.Major, B: 1}, api.ErrIndex}, {api.Pick{At: 3, Act: api.Down, B: -1}, api.ErrIndex},
		{api.Pick{At: 3, Act: api.Replace, A: 1}, api.ErrIndex}, {api.Pick{At: 3, Act: api.Replace, B: 2048}, api.ErrIndex}, {api.Pick{At: 3, Act: api.Replace, B: -1}, api.ErrIndex},
		{api.Pick{At: 3, Act: api.Up, A: api.MaxMethods}, api.ErrIndex}, {api.Pick{At: 3, Act: api.Up, A: -1}, api.ErrIndex}, {api.Pick{At: 2, Act: api.Up, B: 2048}, api.ErrIndex},
		{api.Pick{At: 2, Act: api.Minor}, api.ErrShape},
		{api.Pick{At: 3, Act: api.Up, A: api.MaxMethods - 1, B: 2047}, nil}, {api.Pick{At: 1 << 20, Act: api.Replace, B: 2047}, nil}, {api.Pick{At: 3, Act: api.Down}, nil},
	} {
		l := []api.Pick{ok, x.k}
		err := May(l)
		if x.kind == nil && err != nil {
			t.Error(x.k, err)
		}
		if x.kind != nil {
			wantAt(t, x.k, err, 1, x.kind)
			if b, err := Print(l); b != nil || !errors.Is(err, x.kind) {
				t.Error(x.k, b, err)
			}
			if s, err := New(l); s != nil || !errors.Is(err, x.kind) {
				t.Error(x.k, err)
			}
		}
	}
	if May(make([]api.Pick, api.MaxPicks+1)) != api.ErrMany || May(nil) != nil {
		t.Error("many")
	}
	if May(slices.Repeat([]api.Pick{ok}, api.MaxPicks)) != nil {
		t.Error("as many as may be")
	}
}

func TestPrintParse(t *testing.T) {
	l := []api.Pick{{At: 3, Act: api.Minor}, {At: 3, Act: api.Up, A: 2, B: 33}}
	b, err := Print(l)
	if err != nil || !bytes.Equal(b, []byte{3, 1, 0, 3, 2, 33}) {
		t.Error(b, err)
	}
	for seed := range uint64(200) {
		l := sample.Picks(seed, 9)
		b, err := Print(l)
		if err != nil {
			t.Fatal(err)
		}
		got, err := Parse(b)
		if err != nil || !slices.Equal(got, l) {
			t.Error(got, err)
		}
		for k := range b {
			c := bytes.Clone(b)
			c[k] = byte(seed * 37)
			if got, err := Parse(c); err == nil {
				if d, err := Print(got); err != nil || !bytes.Equal(c, d) {
					t.Error(c, d, err)
				}
			}
		}
	}
}

func TestParseRefuses(t *testing.T) {
	for _, x := range []struct {
		b    []byte
		pos  int
		kind error
	}{
		{[]byte{128}, 1, api.ErrEnd}, {[]byte{3}, 1, api.ErrEnd}, {[]byte{3, 3}, 2, api.ErrEnd}, {[]byte{3, 3, 1}, 3, api.ErrEnd}, {[]byte{3, 5}, 2, api.ErrEnd}, {[]byte{0, 1, 0}, 3, api.ErrEnd},
		{[]byte{128, 0}, 0, api.ErrByte}, {[]byte{129, 128, 64}, 0, api.ErrByte}, {[]byte{0, 1, 0, 128, 0}, 3, api.ErrByte}, {[]byte{0, 3, 1, 129, 128, 64}, 3, api.ErrByte},
		{bytes.Repeat([]byte{255}, 9), 9, api.ErrEnd}, {bytes.Repeat([]byte{255}, 10), 0, api.ErrByte}, {append(bytes.Repeat([]byte{255}, 9), 2), 0, api.ErrByte},
		{[]byte{0, 1, 0, 6}, 1, api.ErrKind}, {[]byte{0, 0}, 0, api.ErrKind}, {[]byte{0, 3, 12, 0}, 0, api.ErrIndex}, {[]byte{0, 5, 128, 16}, 0, api.ErrIndex}, {[]byte{128, 128, 64, 1, 1, 1}, 1, api.ErrIndex},
	} {
		l, err := Parse(x.b)
		if wantAt(t, x.b, err, x.pos, x.kind); l != nil {
			t.Error(l)
		}
	}
	if l, err := Parse(nil); len(l) != 0 || err != nil {
		t.Error(l, err)
	}
	many := bytes.Repeat([]byte{0, 1}, api.MaxPicks+1)
	if l, err := Parse(many); l != nil || err != api.ErrMany {
		t.Error(err)
	}
	if l, err := Parse(bytes.Repeat([]byte{128}, api.MaxBytes+1)); l != nil || err != api.ErrMany {
		t.Error(err)
	}
	_, err := Parse(bytes.Repeat([]byte{128}, api.MaxBytes))
	wantAt(t, "most", err, 0, api.ErrByte)
}

func TestOptions(t *testing.T) {
	if got := Unpack(33); got != (Options{Inline: true, Regs: 2}) {
		t.Error(got)
	}
	for b := range 512 {
		o := Unpack(b)
		if Pack(o) != b || Unpack(b+512*3) != o || o.Regs != 1+b/32 {
			t.Error(b, o)
		}
	}
	if Unpack(2) != (Options{Fold: true, Regs: 1}) || Unpack(4) != (Options{Gvn: true, Regs: 1}) || Unpack(8) != (Options{Escape: true, Regs: 1}) || Unpack(16) != (Options{Guess: true, Regs: 1}) {
		t.Error("bits")
	}
	for regs, want := range map[int]int{0: 0, -5: 0, math.MinInt: 0, 1: 0, 16: 480, 17: 480, math.MaxInt: 480} {
		if got := Pack(Options{Regs: regs}); got != want {
			t.Error(regs, got)
		}
	}
}

func TestAt(t *testing.T) {
	l := []api.Pick{{At: 1, Act: api.Minor}, {At: 3, Act: api.Major}, {At: 3, Act: api.Down}, {At: 5, Act: api.Minor}, {At: 7, Act: api.Minor}}
	s, err := New(l)
	if err != nil || s.Left() != 5 {
		t.Fatal(err)
	}
	l[1].Act = api.Minor
	for _, x := range []struct{ at, n, left int }{{-1, 0, 5}, {0, 0, 5}, {3, 2, 2}, {3, 0, 2}, {1, 0, 2}, {4, 0, 2}, {6, 0, 1}, {5, 0, 1}, {7, 1, 0}, {8, 0, 0}, {math.MaxInt, 0, 0}, {7, 0, 0}} {
		got := s.At(x.at)
		if len(got) != x.n || s.Left() != x.left {
			t.Error(x, got, s.Left())
		}
		if x.at == 3 && x.n == 2 && (got[0].Act != api.Major || got[1].Act != api.Down) {
			t.Error("order, or what was handed in is kept", got)
		}
	}
}
