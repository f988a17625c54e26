package gain

import (
	"math"
	"testing"
)

var (
	nan      = math.NaN()
	inf      = math.Inf(1)
	negZero  = math.Copysign(0, -1)
	tiny     = math.SmallestNonzeroFloat64
	below1   = math.Nextafter(1, 0)
	above1   = math.Nextafter(1, 2)
	otherNaN = math.Float64frombits(0xfff8000000000001)
)

// equal compares by value; a NaN equals every NaN.
func equal(a, b float64) bool {
	return a == b || math.IsNaN(a) && math.IsNaN(b)
}

func TestP1_1Fix(t *testing.T) {
	for _, c := range []struct{ x, want float64 }{
		{0.5, 0.5}, {0.25, 0.25}, {0.9, 0.9},
		{below1, below1}, {1, 1}, {above1, 1},
		{1.5, 1}, {2, 1}, {math.MaxFloat64, 1}, {inf, 1},
		{nan, 1}, {otherNaN, 1},
		{tiny, tiny}, {2 * tiny, 2 * tiny}, {0x1p-1022, 0x1p-1022},
		{0, 0}, {negZero, 0}, {-tiny, 0}, {-0x1p-1022, 0},
		{-0.5, 0}, {-1, 0}, {-3, 0}, {-math.MaxFloat64, 0}, {-inf, 0},
	} {
		got := Fix(c.x)
		if got != c.want || math.Signbit(got) {
			t.Errorf("Fix(%v) = %v, want %v without a sign", c.x, got, c.want)
		}
	}
}

type worthCase struct {
	x           float64
	packed, raw int
	want        bool
}

func checkWorth(t *testing.T, l []worthCase) {
	t.Helper()
	for _, c := range l {
		if got := Worth(c.x, c.packed, c.raw); got != c.want {
			t.Errorf("Worth(%v, %d, %d) = %v, want %v", c.x, c.packed, c.raw, got, c.want)
		}
	}
}

func TestP1_1WorthOrdinary(t *testing.T) {
	checkWorth(t, []worthCase{
		{0.5, 64, 128, true}, {0.5, 65, 128, false}, {0.5, 63, 128, true},
		{0.25, 1, 4, true}, {0.25, 2, 4, false},
		{0.25, 256, 1024, true}, {0.25, 257, 1024, false},
		{0.75, 3, 4, true}, {0.9, 91, 100, false}, {0.9, 89, 100, true},
		// The float64 product of 0.29 and 100 is below 29; that of 0.07 and 100 is above 7.
		{0.29, 29, 100, false}, {0.29, 28, 100, true},
		{0.07, 7, 100, true}, {0.07, 8, 100, false},
	})
}

func TestP1_1WorthThresholdLimits(t *testing.T) {
	for _, x := range []float64{1, above1, 1.5, 7, math.MaxFloat64, inf, nan, otherNaN} {
		checkWorth(t, []worthCase{
			{x, 0, 1, true}, {x, 1, 1, false}, {x, 2, 1, false},
			{x, 127, 128, true}, {x, 128, 128, false}, {x, 129, 128, false},
			{x, 5, 6, true}, {x, 6, 6, false},
		})
	}
	for _, x := range []float64{0, negZero, -tiny, -0.5, -1, -math.MaxFloat64, -inf} {
		checkWorth(t, []worthCase{
			{x, 0, 1, true}, {x, 0, 128, true}, {x, 0, math.MaxInt, true},
			{x, 1, 128, false}, {x, 1, math.MaxInt, false},
		})
	}
	checkWorth(t, []worthCase{
		{tiny, 0, 1, true}, {tiny, 1, 2, false}, {tiny, 1, math.MaxInt, false},
		{below1, 99, 100, true}, {below1, 100, 100, false},
	})
}

func TestP1_1WorthGreatSizes(t *testing.T) {
	checkWorth(t, []worthCase{
		// Equal as float64, different as integers.
		{1, math.MaxInt - 1, math.MaxInt, true},
		{1, math.MaxInt, math.MaxInt, false},
		{1, math.MaxInt, math.MaxInt - 1, false},
		{nan, math.MaxInt - 1, math.MaxInt, true},
		// The product is 2^63 - 1024, the float64 before 2^63.
		{below1, math.MaxInt - 1, math.MaxInt, false},
		{below1, math.MaxInt - 1023, math.MaxInt, true},
		{below1, math.MaxInt - 1022, math.MaxInt, true},
		{0.5, math.MaxInt / 2, math.MaxInt, true},
	})
}

func TestP1_1WorthInvalidSizes(t *testing.T) {
	for _, x := range []float64{0, negZero, tiny, 0.5, 1, 2, -1, inf, -inf, nan} {
		checkWorth(t, []worthCase{
			{x, -1, 128, false}, {x, -1, 1, false}, {x, math.MinInt, 128, false},
			{x, math.MinInt, math.MaxInt, false},
			{x, 0, 0, false}, {x, 5, 0, false}, {x, -5, 0, false},
			{x, 0, -1, false}, {x, 1, -1, false}, {x, -5, -1, false}, {x, -1, -5, false},
			{x, math.MinInt, -1, false}, {x, 0, math.MinInt, false},
		})
	}
}

func TestP1_1Ratio(t *testing.T) {
	for _, c := range []struct {
		packed, raw int
		want        float64
	}{
		{1, 2, 0.5}, {2, 1, 2}, {7, 7, 1}, {1, 3, 1.0 / 3}, {64, 128, 0.5}, {129, 128, 1.0078125},
		{0, 5, 0}, {0, -5, 0},
		{-1, 2, -0.5}, {3, -4, -0.75}, {-6, -3, 2},
		{5, 0, inf}, {1, 0, inf}, {math.MaxInt, 0, inf},
		{-5, 0, -inf}, {-1, 0, -inf}, {math.MinInt, 0, -inf},
		{0, 0, nan},
		{math.MaxInt, 1, 0x1p63}, {math.MinInt, 1, -0x1p63}, {math.MinInt, -1, 0x1p63},
		{math.MaxInt, math.MaxInt, 1}, {math.MaxInt - 1, math.MaxInt, 1}, {1, math.MinInt, -0x1p-63},
	} {
		if got := Ratio(c.packed, c.raw); !equal(got, c.want) {
			t.Errorf("Ratio(%d, %d) = %v, want %v", c.packed, c.raw, got, c.want)
		}
	}
	if math.Signbit(Ratio(0, 5)) || !math.Signbit(Ratio(0, -5)) {
		t.Error("a ratio of 0 does not have the sign of the quotient")
	}
}

type meanCase struct {
	l    []float64
	want float64
	ok   bool
}

func checkMean(t *testing.T, l []meanCase) {
	t.Helper()
	for _, c := range l {
		got, ok := Mean(c.l)
		if got != c.want || ok != c.ok {
			t.Errorf("Mean(%v) = %v, %v, want %v, %v", c.l, got, ok, c.want, c.ok)
		}
	}
}

func TestP1_1MeanOrdinary(t *testing.T) {
	a, b, c := 0.1, 0.2, 0.3
	checkMean(t, []meanCase{
		{[]float64{1, 2, 3}, 2, true},
		{[]float64{-4}, -4, true},
		{[]float64{1, 2}, 1.5, true},
		{[]float64{-1, 1}, 0, true},
		// Other orders of addition give other sums.
		{[]float64{1e16, -1e16, 1}, 1.0 / 3, true},
		{[]float64{1, 1e16, -1e16}, 0, true},
		{[]float64{a, b, c}, (a + b + c) / 3, true},
		{[]float64{c, b, a}, (c + b + a) / 3, true},
	})
}

func TestP1_1MeanSkipsWhatIsNotFinite(t *testing.T) {
	checkMean(t, []meanCase{
		{[]float64{nan, 1, inf, 3, -inf}, 2, true},
		{[]float64{1, 3, nan}, 2, true},
		{[]float64{otherNaN, 7}, 7, true},
		{[]float64{inf, -inf, 0}, 0, true},
		{[]float64{nan, math.MaxFloat64}, math.MaxFloat64, true},
		{nil, 0, false},
		{[]float64{}, 0, false},
		{[]float64{nan}, 0, false},
		{[]float64{inf}, 0, false},
		{[]float64{-inf}, 0, false},
		{[]float64{nan, inf, -inf, otherNaN}, 0, false},
	})
}

func TestP1_1MeanSumNotFinite(t *testing.T) {
	most := math.MaxFloat64
	checkMean(t, []meanCase{
		{[]float64{most}, most, true},
		{[]float64{-most}, -most, true},
		{[]float64{most, -most}, 0, true},
		{[]float64{most, most}, 0, false},
		{[]float64{-most, -most}, 0, false},
		{[]float64{1e308, 1e308, -1e308}, 0, false},
		{[]float64{most, most, -most, -most}, 0, false},
		{[]float64{1e308, -1e308, 3}, 1, true},
		{[]float64{1e308, -1e308, 1e308}, 1e308 / 3, true},
	})
}

func TestP1_1MeanSmallNumbers(t *testing.T) {
	checkMean(t, []meanCase{
		{[]float64{tiny}, tiny, true},
		{[]float64{tiny, tiny}, tiny, true},
		{[]float64{tiny, 0}, 0, true},
		{[]float64{tiny, tiny, 0}, tiny, true},
		{[]float64{tiny, -tiny}, 0, true},
		{[]float64{0}, 0, true},
		{[]float64{negZero}, 0, true},
		{[]float64{negZero, 0}, 0, true},
	})
	if got, _ := Mean([]float64{nan, negZero, negZero}); !math.Signbit(got) {
		t.Error("the mean of negative zeros has lost its sign")
	}
	if got, _ := Mean([]float64{negZero, 0}); math.Signbit(got) {
		t.Error("the mean of a negative and a positive zero has a sign")
	}
}

func TestP1_1MeanKeepsItsArgument(t *testing.T) {
	whole := []float64{nan, 2, negZero, inf, 5, 6}
	want := make([]uint64, len(whole))
	for i, x := range whole {
		want[i] = math.Float64bits(x)
	}
	Mean(whole[:3])
	for i, x := range whole {
		if math.Float64bits(x) != want[i] {
			t.Errorf("element %d was changed to %v", i, x)
		}
	}
}
