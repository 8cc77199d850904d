package word

import (
	"bytes"
	"math"
	"testing"

	"overdrive/api"
)

func TestTwo(t *testing.T) {
	for i, x := range []struct {
		op         int
		a, b, want int64
		trap       int
	}{
		{api.Add, 2, 3, 5, 0}, {api.Add, math.MaxInt64, 1, math.MinInt64, 0},
		{api.Sub, 2, 3, -1, 0}, {api.Sub, math.MinInt64, 1, math.MaxInt64, 0},
		{api.Mul, 7, -3, -21, 0}, {api.Mul, 1 << 62, 2, math.MinInt64, 0}, {api.Mul, 1 << 62, 4, 0, 0},
		{api.Div, -7, 2, -3, 0}, {api.Div, 7, -2, -3, 0}, {api.Div, math.MinInt64, -1, math.MinInt64, 0}, {api.Div, 1, 0, 0, api.TDiv},
		{api.Rem, -7, 2, -1, 0}, {api.Rem, 7, -2, 1, 0}, {api.Rem, math.MinInt64, -1, 0, 0}, {api.Rem, 1, 0, 0, api.TDiv},
		{api.And, 12, 10, 8, 0}, {api.Or, 12, 10, 14, 0}, {api.Xor, 12, 10, 6, 0},
		{api.Shl, 1, 63, math.MinInt64, 0}, {api.Shl, 1, 65, 2, 0}, {api.Shl, 1, -1, math.MinInt64, 0},
		{api.Shr, -8, 65, -4, 0}, {api.Shr, -8, 1, -4, 0}, {api.Shr, 8, -63, 4, 0},
		{api.Lt, 1, 2, 1, 0}, {api.Lt, 2, 2, 0, 0}, {api.Lt, math.MinInt64, math.MaxInt64, 1, 0},
		{api.Eq, 2, 2, 1, 0}, {api.Eq, 2, -2, 0, 0},
		{api.Neg, 1, 2, 0, 0}, {api.Same, 1, 1, 0, 0}, {0, 1, 1, 0, 0}, {-1, 1, 1, 0, 0}, {api.Return, 1, 0, 0, 0},
	} {
		if got, trap := Two(x.op, x.a, x.b); got != x.want || trap != x.trap {
			t.Error(i, got, trap)
		}
	}
}

func TestOneAndPure(t *testing.T) {
	for a, want := range map[int64]int64{5: -5, 0: 0, math.MinInt64: math.MinInt64} {
		if got, is := One(api.Neg, a); got != want || !is {
			t.Error(a, got)
		}
	}
	for op := -2; op < 60; op++ {
		want := op >= api.Add && op <= api.Eq && op != api.Div && op != api.Rem
		if Pure(op) != want {
			t.Error("pure", op)
		}
		if got, is := One(op, 3); op != api.Neg && (got != 0 || is) {
			t.Error("one", op)
		}
	}
}

func TestZigZag(t *testing.T) {
	for n, u := range map[int64]uint64{0: 0, -1: 1, 1: 2, -2: 3, 2: 4, math.MaxInt64: math.MaxUint64 - 1, math.MinInt64: math.MaxUint64} {
		if Zig(n) != u || Zag(u) != n {
			t.Error(n, Zig(n), Zag(u))
		}
	}
}

func TestPutTake(t *testing.T) {
	if got := Put(nil, 300); !bytes.Equal(got, []byte{172, 2}) {
		t.Error(got)
	}
	for shift := range 64 {
		for d := range uint64(3) {
			u := uint64(1)<<shift - 1 + d
			b := Put([]byte{7}, u)
			got, at, is := Take(append(b, 9), 1)
			if got != u || at != len(b) || !is || b[0] != 7 {
				t.Error(u, got, at, is)
			}
			for k := 1; k < len(b); k++ {
				if got, at, is := Take(b[:k], 1); got != 0 || at != 0 || is {
					t.Error("cut", u, k)
				}
			}
		}
	}
}

func TestTakeRefuses(t *testing.T) {
	high := bytes.Repeat([]byte{255}, 9)
	for i, b := range [][]byte{nil, {128}, {128, 0}, {255, 128, 0}, append(bytes.Clone(high), 2), append(bytes.Clone(high), 0), append(bytes.Clone(high), 128, 0), append(bytes.Clone(high), 129, 1)} {
		if u, at, is := Take(b, 0); u != 0 || at != 0 || is {
			t.Error(i, u, at)
		}
	}
	for _, at := range []int{-1, 1, math.MaxInt, math.MinInt} {
		if _, _, is := Take([]byte{1}, at); is {
			t.Error(at)
		}
	}
}

func TestTakeIsAsPut(t *testing.T) {
	for a := range 256 {
		for b := range 256 {
			in := []byte{byte(a), byte(b)}
			u, at, is := Take(in, 0)
			if is && !bytes.Equal(Put(nil, u), in[:at]) {
				t.Error(in, u)
			}
		}
	}
}

func TestPutCopies(t *testing.T) {
	room := make([]byte, 1, 40)
	a, b := Put(room, 5), Put(room, 6)
	if a[1] != 5 || b[1] != 6 || room[:2][1] != 0 {
		t.Error("memory is shared")
	}
}
