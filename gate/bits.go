package gate

import (
	"tideway/api"
	"tideway/checks"
)

// The number of bits, the number of conditions, and the bit that is set if the gate is locked.
const (
	bitCount       = 4
	conditionCount = 1 << bitCount
	lockBit        = 0
)

// bits are the bits of conditions, of a mask or of a value.
type bits [bitCount]bool

// checkConditions returns the error of conditions, of a mask or of a value, or OK.
func checkConditions(conditions int) api.Errno {
	return checks.Range(conditions, 0, conditionCount-1)
}

func bitsOf(conditions int) bits {
	var out bits
	for bit := range bitCount {
		out[bit] = conditions>>bit&1 == 1
	}
	return out
}

func (b bits) conditions() int {
	out := 0
	for bit, set := range b {
		if set {
			out |= 1 << bit
		}
	}
	return out
}

// within returns the bits that a mask has, too.
func (b bits) within(mask bits) bits {
	for bit := range b {
		b[bit] = b[bit] && mask[bit]
	}
	return b
}
