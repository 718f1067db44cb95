// Package lapse turns lengths of time into ticks, so that no product of a tick and a step is asked for, which an
// int may not hold.
package lapse

import "klaxon/num"

// Least is how many steps are long at least.
func Least(step, long int) int {
	return num.Up(long, max(step, 1))
}

// Most is how many steps are keep at most; below nought, if none are.
func Most(step, keep int) int {
	if keep < 0 {
		return -1
	}
	return keep / max(step, 1)
}
