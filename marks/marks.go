// Package marks is layer 2: see shared/doc/02-marks.md.
package marks

import (
	"math"
	"slices"
	"strconv"

	"primer/api"
)

const (
	noMark   = 0x7FF8000000000001 // the bits of no mark
	noneText = "none"             // as which it is shown
	wide     = 8                  // a mark's bytes
)

// Canon: the mark as which a number counts.
func Canon(f float64) float64 {
	if math.IsNaN(f) {
		return none()
	}
	if f == 0 { // -0 is equal to 0, but has other bits
		return 0
	}
	return f
}

// Put: a mark's bytes.
func Put(f float64) string {
	var b [wide]byte
	u := math.Float64bits(Canon(f))
	for k := range wide {
		b[wide-1-k] = byte(u >> (8 * k))
	}
	return string(b[:])
}

// Get: the mark of bytes.
func Get(s string) (float64, api.Errno) {
	if len(s) < wide {
		return 0, api.ErrShort
	}
	if len(s) > wide {
		return 0, api.ErrTail
	}
	var u uint64
	for k := range wide {
		u = u<<8 | uint64(s[k])
	}
	f := math.Float64frombits(u)
	if Put(f) != s {
		return 0, api.ErrForm
	}
	return f, api.OK
}

// Compare two marks.
func Compare(a, b float64) int {
	if math.IsNaN(a) && math.IsNaN(b) {
		return 0
	}
	if math.IsNaN(a) {
		return 1
	}
	if math.IsNaN(b) {
		return -1
	}
	if a < b {
		return -1
	}
	if a > b {
		return 1
	}
	return 0
}

// Share of a hundred.
func Share(right, all int) float64 {
	if all < 1 || all > api.MaxNumber || right < 0 || right > all {
		return none()
	}
	return Canon(float64(right) * 100 / float64(all))
}

// Clamp a mark into 0 to 100.
func Clamp(f float64) float64 {
	if f < 0 {
		return 0
	}
	if f > 100 {
		return 100
	}
	return Canon(f)
}

// Mean of marks, and how many counted.
func Mean(l []float64) (float64, int) {
	sum, count := 0.0, 0
	for _, f := range l {
		if !math.IsNaN(f) {
			sum += f
			count++
		}
	}
	if count == 0 {
		return none(), 0
	}
	return Canon(sum / float64(count)), count
}

// Weigh marks.
func Weigh(values, weights []float64) (float64, api.Errno) {
	if len(values) != len(weights) {
		return 0, api.ErrArg
	}
	noWeight := func(w float64) bool { return math.IsNaN(w) || w < 0 || math.IsInf(w, 1) }
	if slices.ContainsFunc(weights, noWeight) {
		return 0, api.ErrMark
	}
	sum, all := 0.0, 0.0
	for k, f := range values {
		if !math.IsNaN(f) {
			sum += float64(f * weights[k]) // converted: else some machines round product and sum at once
			all += weights[k]
		}
	}
	if all == 0 {
		return none(), api.OK
	}
	return Canon(sum / all), api.OK
}

// Rank: the places of marks, the best one first.
func Rank(l []float64) []int {
	places := make([]int, len(l))
	for k := range places {
		places[k] = k
	}
	slices.SortStableFunc(places, func(x, y int) int {
		a, b := l[x], l[y]
		if math.IsNaN(a) || math.IsNaN(b) { // no mark stands last here as in Compare
			return Compare(a, b)
		}
		return Compare(b, a)
	})
	return places
}

// Show a mark.
func Show(f float64) string {
	f = Canon(f)
	switch {
	case math.IsNaN(f):
		return noneText
	case math.IsInf(f, 1):
		return "inf"
	case math.IsInf(f, -1):
		return "-inf"
	}
	return strconv.FormatFloat(f, 'g', -1, 64)
}

// Parse a shown mark.
func Parse(s string) (float64, api.Errno) {
	if s == noneText {
		return none(), api.OK
	}
	f, err := strconv.ParseFloat(s, 64)
	if err != nil || Show(f) != s { // one mark may be written in many ways, but is shown in one
		return 0, api.ErrForm
	}
	return f, api.OK
}

func none() float64 {
	return math.Float64frombits(noMark)
}
