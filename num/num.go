// Package num is layer 1: see shared/doc/01-num.md.
package num

import (
	"math/bits"
	"slices"

	"trefoil/api"
)

// Check is whether a number may be reckoned with.
func Check(n int) api.Errno {
	if n < 0 {
		return api.ErrNumBelow
	}
	if n > api.MaxNum {
		return api.ErrNumGreat
	}
	return api.OK
}

// firstFault is what Check tells of the first number that may not be; OK, if all may.
func firstFault(l ...int) api.Errno {
	fault := api.OK
	isFault := func(n int) bool {
		fault = Check(n)
		return fault != api.OK
	}
	if slices.ContainsFunc(l, isFault) {
		return fault
	}
	return api.OK
}

// Add is a sum.
func Add(l ...int) (int, api.Errno) {
	if e := firstFault(l...); e != api.OK {
		return 0, e
	}
	sum := 0
	for _, n := range l {
		sum += n
		// Held against the limit at each number: the sum of many could wrap round, and look small again.
		if sum > api.MaxNum {
			return 0, api.ErrNumGreat
		}
	}
	return sum, api.OK
}

// Sub is a difference.
func Sub(a, b int) (int, api.Errno) {
	if e := firstFault(a, b); e != api.OK {
		return 0, e
	}
	if b > a {
		return 0, api.ErrNumBelow
	}
	return a - b, api.OK
}

// Mul is a product.
func Mul(a, b int) (int, api.Errno) {
	if e := firstFault(a, b); e != api.OK {
		return 0, e
	}
	// Asked by a quotient, ahead of multiplying: the product itself may have 80 bits.
	if b != 0 && a > api.MaxNum/b {
		return 0, api.ErrNumGreat
	}
	return a * b, api.OK
}

// Up is a quotient, rounded up.
func Up(a, b int) (int, api.Errno) {
	q, e := Down(a, b)
	if e == api.OK && q*b < a {
		q++
	}
	return q, e
}

// Down is a quotient, rounded down.
func Down(a, b int) (int, api.Errno) {
	if e := firstFault(a, b); e != api.OK {
		return 0, e
	}
	if b == 0 {
		return 0, api.ErrNumZero
	}
	return a / b, api.OK
}

// Two is the power of two that a number is; false: it is none.
func Two(n int) (int, bool) {
	if Check(n) != api.OK || bits.OnesCount(uint(n)) != 1 {
		return 0, false
	}
	return bits.TrailingZeros(uint(n)), true
}
