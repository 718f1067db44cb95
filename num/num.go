// Package num reckons with ints, and tells what can't be: see the document's chapter 1.
package num

import (
	"math"

	"klaxon/api"
)

// Add is a and b.
func Add(a, b int) (int, api.Errno) {
	sum := a + b
	if (sum > a) != (b > 0) {
		return 0, api.ErrOver
	}
	return sum, api.OK
}

// Sub is a less b.
func Sub(a, b int) (int, api.Errno) {
	rest := a - b
	if (rest < a) != (b > 0) {
		return 0, api.ErrOver
	}
	return rest, api.OK
}

// Mul is a times b.
func Mul(a, b int) (int, api.Errno) {
	if b == 0 {
		return 0, api.OK
	}
	product := a * b
	// The least int by -1 goes round to itself, so that dividing back wouldn't tell.
	if product/b != a || b == -1 && a == math.MinInt {
		return 0, api.ErrOver
	}
	return product, api.OK
}

// Div is the quotient of a and b, cut towards nought.
func Div(a, b int) (int, api.Errno) {
	switch {
	case b == 0:
		return 0, api.ErrZero
	case b == -1 && a == math.MinInt:
		return 0, api.ErrOver
	}
	return a / b, api.OK
}

// Mod is what the quotient of a and b leaves.
func Mod(a, b int) (int, api.Errno) {
	if b == 0 {
		return 0, api.ErrZero
	}
	return a % b, api.OK
}

// Sum adds from left to right.
func Sum(l ...int) (int, api.Errno) {
	sum := 0
	for _, n := range l {
		next, err := Add(sum, n)
		if err != api.OK {
			return 0, err
		}
		sum = next
	}
	return sum, api.OK
}

// Up is a by b, up to the next whole number.
func Up(a, b int) int {
	if a < 0 || b < 1 {
		return 0
	}
	up := a / b
	if a%b > 0 {
		up++
	}
	return up
}
