package weigh

import (
	"math"
	"math/bits"
	"slices"

	"arborist/api"
)

// fits tells whether a weight is small enough, and of complex numbers, whether its parts are whole (D1).
func fits[W Number](w W) bool {
	switch x := any(w).(type) {
	case int64:
		return countFits(x)
	case complex128:
		return phaseFits(x)
	}
	return false
}

// product answers x by y, and whether that fits (D1).
func product[W Number](x, y W) (W, bool) {
	switch v := any(x).(type) {
	case int64:
		p, fit := countProduct(v, any(y).(int64))
		return any(p).(W), fit
	case complex128:
		p, fit := phaseProduct(v, any(y).(complex128))
		return any(p).(W), fit
	}
	return 0, false
}

// sum answers the sum of weights, and whether the sum of their sizes fits (D1).
func sum[W Number](l []W) (W, bool) {
	switch v := any(l).(type) {
	case []int64:
		s, fit := countSum(v)
		return any(s).(W), fit
	case []complex128:
		s, fit := phaseSum(v)
		return any(s).(W), fit
	}
	return 0, false
}

// sumOfTwo answers the sum of two weights that fit, and whether it fits itself (D2).
func sumOfTwo(x, y int64) (int64, bool) {
	// Of all sums of these only 2^63 wraps round, and to what does not fit either.
	return x + y, countFits(x + y)
}

// least answers the least of weights; 0 of none, which only what is not right has.
func least(l []int64) int64 {
	if len(l) == 0 {
		return 0
	}
	return slices.Min(l)
}

// size is a number without its sign, that of the least int64 too.
func size(x int64) uint64 {
	if x < 0 {
		return uint64(-x)
	}
	return uint64(x)
}

func countFits(x int64) bool { return size(x) <= api.MaxCount }

func countProduct(x, y int64) (int64, bool) {
	high, low := bits.Mul64(size(x), size(y))
	return x * y, high == 0 && low <= api.MaxCount
}

func countSum(l []int64) (int64, bool) {
	var s int64
	var sizes uint64
	for _, x := range l {
		s += x
		sizes += size(x)
		// Asked each time, as the sizes of more than a few would wrap round.
		if sizes > api.MaxCount {
			return 0, false
		}
	}
	return s, true
}

func phaseFits(x complex128) bool { return partFits(real(x)) && partFits(imag(x)) }

// partFits tells whether a part is a whole number, by size below 2^53: up to there floats are exact, so what is made of two such ones is never rounded to where it would fit.
func partFits(x float64) bool { return math.Abs(x) < api.MaxPhase && math.Trunc(x) == x }

func phaseProduct(x, y complex128) (complex128, bool) {
	parts := [4]float64{real(x) * real(y), imag(x) * imag(y), real(x) * imag(y), imag(x) * real(y)}
	for _, p := range parts {
		if !partFits(p) {
			return 0, false
		}
	}
	// A float's nought may have a sign, which a whole number's has not: 0 takes it away.
	p := complex(parts[0]-parts[1]+0, parts[2]+parts[3]+0)
	return p, phaseFits(p)
}

func phaseSum(l []complex128) (complex128, bool) {
	var s complex128
	var first, second float64
	for _, x := range l {
		s += x
		first += math.Abs(real(x))
		second += math.Abs(imag(x))
	}
	return s, partFits(first) && partFits(second)
}
