// Package gain decides by a floating-point threshold whether compression is
// worthwhile: see DOC.md, chapter 1.
package gain

import "math"

// Fix clamps a threshold to the range from 0 to 1; NaN becomes 1.
func Fix(x float64) float64 {
	if math.IsNaN(x) || x > 1 {
		return 1
	}
	// Equal to zero includes negative zero, which must lose its sign.
	if x <= 0 {
		return 0
	}
	return x
}

// Worth reports whether packed bytes instead of raw ones are few enough for
// the threshold x.
func Worth(x float64, packed, raw int) bool {
	// As integers: sizes that differ can be equal as floating-point numbers.
	if packed < 0 || raw <= 0 || packed >= raw {
		return false
	}
	// The outer conversion makes the product a rounded one on every machine.
	most := float64(Fix(x) * float64(raw))
	return float64(packed) <= most
}

// Ratio returns packed divided by raw, also where raw is 0.
func Ratio(packed, raw int) float64 {
	return float64(packed) / float64(raw)
}

// Mean returns the arithmetic mean of the finite elements of l, and false if
// there is none or if their sum is not finite.
func Mean(l []float64) (float64, bool) {
	sum, n := 0.0, 0
	for _, x := range l {
		if !finite(x) {
			continue
		}
		if n == 0 {
			// Adding to a zero would take the sign of a negative zero.
			sum = x
		} else {
			sum += x
		}
		n++
	}
	if n == 0 || !finite(sum) {
		return 0, false
	}
	return sum / float64(n), true
}

func finite(x float64) bool {
	return !math.IsNaN(x) && !math.IsInf(x, 0)
}
