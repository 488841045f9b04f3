// Package arith is layer 1: numbers of 64 bits without a sign, that never wrap. See shared/doc/01-arith.md.
package arith

import "math/bits"

// Add tells a and b together.
func Add(a, b uint64) (uint64, bool) {
	sum, carry := bits.Add64(a, b, 0)
	return exact(sum, carry)
}

// Sub tells a less b.
func Sub(a, b uint64) (uint64, bool) {
	rest, borrow := bits.Sub64(a, b, 0)
	return exact(rest, borrow)
}

// Mul tells a times b.
func Mul(a, b uint64) (uint64, bool) {
	high, low := bits.Mul64(a, b)
	return exact(low, high)
}

// Sum tells all of l together.
func Sum(l ...uint64) (uint64, bool) {
	return fold(0, each(l...), Add)
}

// CeilDiv tells the least number whose product with b is not below a.
func CeilDiv(a, b uint64) (uint64, bool) {
	if b == 0 {
		return 0, false
	}
	q := a / b
	if a%b != 0 {
		// This can't wrap: a rest needs a b of 2 or more, and so a q of less than 2^63.
		q++
	}
	return q, true
}

// Gcd tells the greatest number that divides all of l that are not 0.
func Gcd(l ...uint64) uint64 {
	// From 0 on, since of 0 and n the common divisor is n: zeros change nothing.
	d, _ := fold(0, each(l...), func(a, b uint64) (uint64, bool) { return gcd(a, b), true })
	return d
}

// Lcm tells the least number above 0 that all of l divide.
func Lcm(l ...uint64) (uint64, bool) {
	return fold(1, each(l...), lcm)
}

// MulDiv tells the whole part of a times b by c, and the rest; the product itself may be 2^64 or more.
func MulDiv(a, b, c uint64) (q, r uint64, ok bool) {
	high, low := bits.Mul64(a, b)
	// A high part of c or more says that the whole part is 2^64 or more; a c of 0 is never above it.
	if high >= c {
		return 0, 0, false
	}
	q, r = bits.Div64(high, low, c)
	return q, r, true
}

// exact tells low, unless something of the number lies beyond it.
func exact(low, beyond uint64) (uint64, bool) {
	if beyond != 0 {
		return 0, false
	}
	return low, true
}

// each makes what tells the numbers of l, one a call, and false behind the last one.
func each(l ...uint64) func() (uint64, bool) {
	i := 0
	return func() (uint64, bool) {
		if i == len(l) {
			return 0, false
		}
		i++
		return l[i-1], true
	}
}

// fold joins the numbers that next tells to so, one by one. A join that can't be told ends it: what is behind it can't mend it.
func fold(so uint64, next func() (uint64, bool), join func(a, b uint64) (uint64, bool)) (uint64, bool) {
	ok := true
numbers:
	for {
		n, more := next()
		switch {
		case !more:
			break numbers
		default:
			if so, ok = join(so, n); !ok {
				break numbers
			}
		}
	}
	return so, ok
}

// gcd tells the greatest number that divides both; of 0 and another one, that other one.
func gcd(a, b uint64) uint64 {
	for b != 0 {
		a, b = b, a%b
	}
	return a
}

// lcm tells the least number above 0 that both divide, of an a that is above 0.
func lcm(a, b uint64) (uint64, bool) {
	if b == 0 {
		return 0, false
	}
	return Mul(a/gcd(a, b), b)
}
