package moves

import (
	"math"
	"slices"
	"testing"

	"overdrive/api"
	"overdrive/sample"
)

func TestExamples(t *testing.T) {
	got, err := Order([]Move{{1, 2}, {2, 1}}, 9)
	if err != nil || !slices.Equal(got, []Move{{9, 1}, {1, 2}, {2, 9}}) || !right([]Move{{1, 2}, {2, 1}}, got, 9) {
		t.Error(got, err)
	}
	if got, err := Order([]Move{{1, 1}}, 9); len(got) != 0 || err != nil {
		t.Error(got, err)
	}
	if got, err := Order(nil, 0); len(got) != 0 || err != nil {
		t.Error(got, err)
	}
}

// right does both, and holds all places against one another.
func right(l, done []Move, spare int) bool {
	const at = 1000
	var once, then [2001]int
	for i := range once {
		once[i], then[i] = i, i
	}
	for _, m := range l {
		once[m.To+at] = m.From + at
	}
	for _, m := range done {
		then[m.To+at] = then[m.From+at]
	}
	for i := range once {
		if once[i] != then[i] && i != spare+at {
			return false
		}
	}
	return true
}

func TestErrors(t *testing.T) {
	many := make([]Move, 501)
	for i, x := range []struct {
		l     []Move
		spare int
		want  error
	}{
		{many, 5000, api.ErrMany}, {make([]Move, 2), 1001, api.ErrIndex}, {nil, -1001, api.ErrIndex}, {nil, math.MinInt, api.ErrIndex},
		{[]Move{{1, 2}, {1, 1001}}, 9, api.ErrIndex}, {[]Move{{-1001, 2}}, 9, api.ErrIndex}, {[]Move{{math.MaxInt, 2}}, 9, api.ErrIndex},
		{[]Move{{1, 2}, {1, 3}}, 9, api.ErrShape}, {[]Move{{1, 1}, {1, 3}}, 9, api.ErrShape}, {[]Move{{1, 2}, {1, 2}}, 9, api.ErrShape},
		{[]Move{{1, 2}}, 1, api.ErrShape}, {[]Move{{1, 2}}, 2, api.ErrShape}, {[]Move{{1, 1}}, 1, api.ErrShape},
		{[]Move{{1000, -1000}, {-1000, 1000}}, 0, nil}, {[]Move{{1, 2}}, 1000, nil}, {[]Move{{1, 2}}, -1000, nil},
	} {
		got, err := Order(x.l, x.spare)
		if err != x.want || err != nil && got != nil {
			t.Error(i, got, err)
		}
	}
}

func TestCycles(t *testing.T) {
	for i, x := range []struct {
		l    []Move
		want int
	}{
		{nil, 0}, {[]Move{{1, 1}}, 0}, {[]Move{{1, 2}}, 0}, {[]Move{{1, 2}, {2, 1}}, 1}, {[]Move{{1, 2}, {2, 3}, {3, 1}}, 1}, {[]Move{{1, 2}, {2, 1}, {3, 4}, {4, 3}, {5, 5}}, 2},
		{[]Move{{1, 2}, {2, 1}, {3, 1}, {4, 3}}, 1}, {[]Move{{2, 1}, {3, 2}, {4, 3}}, 0},
		{[]Move{{1, 2}, {2, 1}, {1, 2}}, 0}, {[]Move{{1, 2}, {2, 1}, {3, 1001}}, 0}, {slices.Repeat([]Move{{1, 2}, {2, 1}}, 251), 0},
		{[]Move{{1000, -1000}, {-1000, 1000}}, 1},
	} {
		if got := Cycles(x.l); got != x.want {
			t.Error(i, got)
		}
	}
}

func TestAnything(t *testing.T) {
	cycles := 0
	for seed := range uint64(3000) {
		d := sample.New(seed)
		n := 1 + d.Roll(12)
		to := make([]int, n)
		for i := range to {
			to[i] = i - 3
		}
		for i := range to {
			k := d.Roll(n)
			to[i], to[k] = to[k], to[i]
		}
		var l []Move
		moving := 0
		for i := range d.Roll(n + 1) {
			m := Move{to[i], d.Roll(n) - 3}
			if seed%3 == 0 { // many cycles
				m.From = to[(i+1+d.Roll(2))%n]
			}
			l = append(l, m)
			if m.To != m.From {
				moving++
			}
		}
		before := slices.Clone(l)
		got, err := Order(l, 500)
		k := Cycles(l)
		if err != nil || !right(l, got, 500) || len(got) != moving+k || !slices.Equal(l, before) {
			t.Fatal(l, got, err)
		}
		used := 0
		for _, m := range got {
			if m.To == 500 {
				used++
			}
		}
		if used != k {
			t.Fatal(l, got)
		}
		cycles += k
	}
	if cycles < 300 {
		t.Error(cycles)
	}
}

func TestMost(t *testing.T) {
	var l []Move
	for i := range 500 {
		l = append(l, Move{i, (i + 1) % 500})
	}
	got, err := Order(l, 600)
	if err != nil || len(got) != 501 || !right(l, got, 600) || Cycles(l) != 1 {
		t.Error(err, len(got))
	}
}
