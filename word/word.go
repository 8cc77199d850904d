// Package word: integers that wrap, and their bytes: see ../shared/doc/01-word.md.
package word

import "overdrive/api"

// maxGroups is how many groups of seven bits a number of 64 bits may have.
const maxGroups = 10

// Two is the result of an op of two integers, or its trap.
func Two(op int, a, b int64) (int64, int) {
	switch op {
	case api.Add:
		return a + b, 0
	case api.Sub:
		return a - b, 0
	case api.Mul:
		return a * b, 0
	case api.Div, api.Rem:
		return divide(op, a, b)
	case api.And:
		return a & b, 0
	case api.Or:
		return a | b, 0
	case api.Xor:
		return a ^ b, 0
	case api.Shl:
		return a << (uint64(b) & 63), 0
	case api.Shr:
		return a >> (uint64(b) & 63), 0
	case api.Lt:
		return truth(a < b), 0
	case api.Eq:
		return truth(a == b), 0
	}
	return 0, 0
}

// divide cuts towards 0; Go's own quotient wraps for the least integer by -1, as is asked for.
func divide(op int, a, b int64) (int64, int) {
	if b == 0 {
		return 0, api.TDiv
	}
	if op == api.Div {
		return a / b, 0
	}
	return a % b, 0
}

func truth(is bool) int64 {
	if is {
		return 1
	}
	return 0
}

// One is the result of an op of one integer.
func One(op int, a int64) (int64, bool) {
	if op != api.Neg {
		return 0, false
	}
	return -a, true
}

// Pure tells whether an op hangs on its integers alone and never traps.
func Pure(op int) bool {
	return op >= api.Add && op <= api.Eq && op != api.Div && op != api.Rem
}

// Zig lays the integers below 0 between the others, so that small ones stay small.
func Zig(n int64) uint64 {
	return uint64(n)<<1 ^ uint64(n>>63)
}

// Zag undoes Zig.
func Zag(u uint64) int64 {
	return int64(u>>1) ^ -int64(u&1)
}

// Put is a copy of b with u behind it, in groups of seven bits.
func Put(b []byte, u uint64) []byte {
	out := make([]byte, len(b), len(b)+maxGroups)
	copy(out, b)
	for u >= 128 {
		out = append(out, byte(u)|128)
		u >>= 7
	}
	return append(out, byte(u))
}

// Take is the number at a place, and the place behind it.
func Take(b []byte, at int) (uint64, int, bool) {
	if at < 0 || at >= len(b) {
		return 0, 0, false
	}
	var u uint64
	for k := 0; k < maxGroups && at+k < len(b); k++ {
		group := b[at+k]
		u |= uint64(group&127) << (7 * k)
		if group < 128 {
			if group == 0 && k > 0 || k == maxGroups-1 && group > 1 {
				return 0, 0, false
			}
			return u, at + k + 1, true
		}
	}
	return 0, 0, false
}
