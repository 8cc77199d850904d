// Package sample makes programs, inputs and scripts out of a number, the same ones each time: the tests of the layers run them against one another.
package sample

import (
	"overdrive/api"
	"overdrive/verify"
)

// In is an instruction: of a Const its N, of others their A and B.
func In(op int, l ...int) api.Instr {
	i := api.Instr{Op: op}
	switch {
	case op == api.Const && len(l) > 0:
		i.N = int64(l[0])
	case len(l) > 0:
		i.A = l[0]
	}
	if len(l) > 1 {
		i.B = l[1]
	}
	return i
}

// Dice are numbers that follow from a first one.
type Dice struct{ state uint64 }

// New is dice that begin with a number.
func New(seed uint64) *Dice { return &Dice{state: seed*0x9E3779B97F4A7C15 + 1} }

// Roll is a number from 0 to below n, or 0.
func (d *Dice) Roll(n int) int {
	d.state ^= d.state << 13
	d.state ^= d.state >> 7
	d.state ^= d.state << 17
	if n <= 0 {
		return 0
	}
	return int(d.state>>11) % n
}

// Program is a program that verify takes.
func Program(seed uint64) *verify.Info {
	d := New(seed)
	for {
		v, err := verify.Of(draw(d))
		if err == nil {
			return shake(d, v)
		}
	}
}

// shake changes instructions here and there, as far as the program stays one; so it comes to ways that no block structure has.
func shake(d *Dice, v *verify.Info) *verify.Info {
	for range d.Roll(3) * d.Roll(12) {
		p := v.Program()
		code := p.Methods[d.Roll(len(p.Methods))].Code
		i := &code[d.Roll(len(code))]
		switch d.Roll(4) {
		case 0:
			i.Op = api.Const + d.Roll(api.Out)
		case 1:
			i.A = d.Roll(len(code))
		case 2:
			i.A, i.B = d.Roll(4), d.Roll(3)*d.Roll(2)
		case 3:
			*i = code[d.Roll(len(code))]
		}
		if w, err := verify.Of(p); err == nil {
			v = w
		}
	}
	return v
}

// Inputs is a list of inputs.
func Inputs(seed uint64) []int64 {
	d := New(seed + 77)
	var in []int64
	for range d.Roll(12) {
		in = append(in, number(d))
	}
	return in
}

func number(d *Dice) int64 {
	if d.Roll(9) == 0 {
		return int64(d.Roll(1<<30)) << 33
	}
	return int64(d.Roll(9) - 3)
}

// Picks is a script for a program of so many methods.
func Picks(seed uint64, methods int) []api.Pick {
	d := New(seed + 99)
	var l []api.Pick
	at := 0
	for range d.Roll(40) {
		at += d.Roll(4) * d.Roll(4)
		k := api.Pick{At: at, Act: api.Minor + d.Roll(api.Replace)}
		switch k.Act {
		case api.Up:
			k.A, k.B = d.Roll(methods+1), d.Roll(512)
		case api.Replace:
			k.B = d.Roll(512)
		}
		l = append(l, k)
	}
	return l
}
