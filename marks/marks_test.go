package marks_test

import (
	"math"
	"slices"
	"strings"
	"testing"

	"primer/api"
	"primer/marks"
)

var (
	inf      = math.Inf(1)
	minusInf = math.Inf(-1)
	minus0   = math.Copysign(0, -1)
	noMark   = math.Float64frombits(0x7FF8000000000001)
	tiny     = math.SmallestNonzeroFloat64
)

// Numbers that are none, of all kinds: quiet and not, with either sign.
func nans() []float64 {
	return []float64{
		noMark,
		math.NaN(),
		math.Float64frombits(0x7FF8000000000000),
		math.Float64frombits(0xFFF8000000000001),
		math.Float64frombits(0x7FF0000000000001),
		math.Float64frombits(0xFFFFFFFFFFFFFFFF),
	}
}

// Marks in the order in which the lesser one comes first.
func rising() []float64 {
	return []float64{minusInf, -math.MaxFloat64, -100, -1, -0.5, -tiny, 0, tiny, 0.1, 0.30000000000000004, 1, 99.99999999999999, 100, 1e21, math.MaxFloat64, inf}
}

// same tells marks apart by all their bits.
func same(a, b float64) bool {
	return math.Float64bits(a) == math.Float64bits(b)
}

func TestCanon(t *testing.T) {
	for _, f := range nans() {
		if !same(marks.Canon(f), noMark) {
			t.Errorf("%x", math.Float64bits(f))
		}
	}
	if !same(marks.Canon(minus0), 0) {
		t.Error("-0")
	}
	for _, f := range rising() {
		if !same(marks.Canon(f), f) {
			t.Error(f)
		}
	}
}

func TestPutAndGet(t *testing.T) {
	for _, c := range []struct {
		f    float64
		want string
	}{
		{0, "\x00\x00\x00\x00\x00\x00\x00\x00"},
		{minus0, "\x00\x00\x00\x00\x00\x00\x00\x00"},
		{1, "\x3f\xf0\x00\x00\x00\x00\x00\x00"},
		{-2, "\xc0\x00\x00\x00\x00\x00\x00\x00"},
		{tiny, "\x00\x00\x00\x00\x00\x00\x00\x01"},
		{math.Float64frombits(0x0102030405060708), "\x01\x02\x03\x04\x05\x06\x07\x08"},
		{inf, "\x7f\xf0\x00\x00\x00\x00\x00\x00"},
		{minusInf, "\xff\xf0\x00\x00\x00\x00\x00\x00"},
		{noMark, "\x7f\xf8\x00\x00\x00\x00\x00\x01"},
		{math.Float64frombits(0xFFF8000000000000), "\x7f\xf8\x00\x00\x00\x00\x00\x01"},
	} {
		s := marks.Put(c.f)
		if s != c.want {
			t.Errorf("Put(%v): %x", c.f, s)
		}
		if f, err := marks.Get(s); !same(f, marks.Canon(c.f)) || err != api.OK {
			t.Errorf("Get of Put(%v): %v %d", c.f, f, err)
		}
	}
	for _, f := range rising() {
		if g, err := marks.Get(marks.Put(f)); !same(f, g) || err != api.OK {
			t.Error(f, g, err)
		}
	}
}

func TestGetErrors(t *testing.T) {
	for s, want := range map[string]api.Errno{
		"":                                     api.ErrShort,
		"\x3f\xf0\x00\x00\x00\x00\x00":         api.ErrShort,
		"\x7f\xf8\x00\x00\x00\x00\x00":         api.ErrShort,
		"\x3f\xf0\x00\x00\x00\x00\x00\x00\x00": api.ErrTail,
		"\x7f\xf8\x00\x00\x00\x00\x00\x00\x00": api.ErrTail,
		"\x80\x00\x00\x00\x00\x00\x00\x00":     api.ErrForm,
		"\x7f\xf8\x00\x00\x00\x00\x00\x00":     api.ErrForm,
		"\x7f\xf8\x00\x00\x00\x00\x00\x02":     api.ErrForm,
		"\x7f\xf0\x00\x00\x00\x00\x00\x01":     api.ErrForm,
		"\xff\xf8\x00\x00\x00\x00\x00\x01":     api.ErrForm,
		"\xff\xff\xff\xff\xff\xff\xff\xff":     api.ErrForm,
	} {
		if f, err := marks.Get(s); !same(f, 0) || err != want {
			t.Errorf("%x: %v %d, not %d", s, f, err, want)
		}
	}
}

func TestCompare(t *testing.T) {
	l := rising()
	for i, a := range l {
		for j, b := range l {
			want := 0
			if i < j {
				want = -1
			} else if i > j {
				want = 1
			}
			if got := marks.Compare(a, b); got != want {
				t.Errorf("%v, %v: %d", a, b, got)
			}
		}
		for _, n := range nans() {
			if marks.Compare(n, a) != 1 || marks.Compare(a, n) != -1 {
				t.Errorf("no mark and %v", a)
			}
		}
	}
	for _, a := range nans() {
		for _, b := range nans() {
			if marks.Compare(a, b) != 0 {
				t.Error("two that are no mark")
			}
		}
	}
	if marks.Compare(0, minus0) != 0 || marks.Compare(minus0, 0) != 0 {
		t.Error("0 and -0")
	}
}

func TestRank(t *testing.T) {
	for _, c := range []struct {
		l    []float64
		want []int
	}{
		{nil, nil},
		{[]float64{5}, []int{0}},
		{[]float64{noMark}, []int{0}},
		{[]float64{1, 2, 3}, []int{2, 1, 0}},
		{[]float64{2, 2, 2}, []int{0, 1, 2}},
		{[]float64{1, noMark, 3, 1}, []int{2, 0, 3, 1}},
		{[]float64{minus0, 0, minus0}, []int{0, 1, 2}},
		{[]float64{0, minus0, -1, 1}, []int{3, 0, 1, 2}},
		{[]float64{noMark, minusInf, math.NaN(), inf, math.Float64frombits(0xFFF8000000000001), 0}, []int{3, 5, 1, 0, 2, 4}},
	} {
		if got := marks.Rank(c.l); !slices.Equal(got, c.want) {
			t.Errorf("%v: %v, not %v", c.l, got, c.want)
		}
	}
}

func TestRankOfMany(t *testing.T) {
	var l []float64
	for k := range 500 {
		f := float64(k * 7 % 5)
		if f == 4 {
			f = noMark
		}
		l = append(l, f)
	}
	kept := slices.Clone(l)
	places := marks.Rank(l)
	for k := 1; k < len(places); k++ {
		a, b := l[places[k-1]], l[places[k]]
		order := marks.Compare(b, a)
		if math.IsNaN(a) || math.IsNaN(b) {
			order = marks.Compare(a, b)
		}
		if order > 0 || order == 0 && places[k-1] >= places[k] {
			t.Fatalf("%d ahead of %d", places[k-1], places[k])
		}
	}
	if len(places) != len(l) || !slices.EqualFunc(l, kept, same) {
		t.Error("what was handed in has changed")
	}
}

func TestShare(t *testing.T) {
	for _, c := range []struct {
		right, all int
		want       float64
	}{
		{0, 1, 0},
		{1, 1, 100},
		{1, 2, 50},
		{1, 3, 33.333333333333336},
		{2, 3, 66.66666666666667},
		{1, 8, 12.5},
		{7, 25, 28}, // not 7 / 25 * 100
		{api.MaxNumber, api.MaxNumber, 100},
		{api.MaxNumber - 1, api.MaxNumber, 99.99999999999999},
		{0, api.MaxNumber, 0},
		{0, 0, noMark},
		{1, 0, noMark},
		{0, -1, noMark},
		{-1, -1, noMark},
		{-1, 2, noMark},
		{3, 2, noMark},
		{1, api.MaxNumber + 1, noMark},
		{math.MaxInt, math.MaxInt, noMark},
		{math.MinInt, math.MinInt, noMark},
		{math.MinInt, 1, noMark},
	} {
		if got := marks.Share(c.right, c.all); !same(got, c.want) {
			t.Errorf("%d of %d: %v, not %v", c.right, c.all, got, c.want)
		}
	}
}

func TestClamp(t *testing.T) {
	for _, c := range [][2]float64{
		{minusInf, 0}, {-1, 0}, {-tiny, 0}, {minus0, 0}, {0, 0}, {tiny, tiny}, {33.3, 33.3},
		{99.99999999999999, 99.99999999999999}, {100, 100}, {100.00000000000001, 100}, {inf, 100},
	} {
		if got := marks.Clamp(c[0]); !same(got, c[1]) {
			t.Errorf("%v: %v, not %v", c[0], got, c[1])
		}
	}
	for _, f := range nans() {
		if !same(marks.Clamp(f), noMark) {
			t.Errorf("%x", math.Float64bits(f))
		}
	}
}

func TestMean(t *testing.T) {
	for _, c := range []struct {
		l     []float64
		want  float64
		count int
	}{
		{nil, noMark, 0},
		{nans(), noMark, 0},
		{[]float64{noMark, 1, 2}, 1.5, 2},
		{[]float64{math.NaN(), 7, math.Float64frombits(0xFFF8000000000001)}, 7, 1},
		{[]float64{0.1, 0.2, 0.3}, 0.20000000000000004, 3},
		{[]float64{0.3, 0.2, 0.1}, 0.19999999999999998, 3},
		{[]float64{1e308, 1e308, -1e308}, inf, 3},
		{[]float64{1e308, -1e308, 1e308}, 1e308 / 3, 3},
		{[]float64{1e16, 1, -1e16}, 0, 3},
		{[]float64{minus0, minus0}, 0, 2},
		{[]float64{-tiny, 0}, 0, 2}, // a quotient of -0
		{[]float64{inf, 1}, inf, 2},
		{[]float64{minusInf, noMark}, minusInf, 1},
		{[]float64{inf, minusInf, 5}, noMark, 3},
	} {
		kept := slices.Clone(c.l)
		if got, count := marks.Mean(c.l); !same(got, c.want) || count != c.count {
			t.Errorf("%v: %v %d, not %v %d", c.l, got, count, c.want, c.count)
		}
		if !slices.EqualFunc(c.l, kept, same) {
			t.Errorf("%v were %v", c.l, kept)
		}
	}
}

func TestWeigh(t *testing.T) {
	for _, c := range []struct {
		values, weights []float64
		want            float64
	}{
		{nil, nil, noMark},
		{[]float64{100, noMark, 50}, []float64{1, 5, 3}, 62.5},
		{[]float64{70}, []float64{2}, 70},
		{[]float64{noMark, math.NaN()}, []float64{1, 2}, noMark},
		{[]float64{10, 20}, []float64{0, 0}, noMark},
		{[]float64{10, 20}, []float64{minus0, minus0}, noMark},
		{[]float64{10, 20}, []float64{0, 4}, 20},
		{[]float64{noMark, 20}, []float64{4, 0}, noMark},
		{[]float64{0.1, 0.2, 0.3}, []float64{1, 1, 1}, 0.20000000000000004},
		{[]float64{-1, 1.0 / 3}, []float64{1, 3}, 0}, // the product is 1 only when it is rounded by itself
		{[]float64{minus0}, []float64{1}, 0},
		{[]float64{-tiny}, []float64{2}, -tiny},
		{[]float64{-tiny, 0}, []float64{1, 1}, 0}, // a quotient of -0
		{[]float64{inf, 1}, []float64{1, 1}, inf},
		{[]float64{minusInf, 1}, []float64{1, 1}, minusInf},
		{[]float64{inf, 1}, []float64{0, 1}, noMark},
		{[]float64{inf, minusInf}, []float64{1, 1}, noMark},
		{[]float64{1, 1}, []float64{math.MaxFloat64, math.MaxFloat64}, noMark},
		{[]float64{0.25, 0.25}, []float64{math.MaxFloat64, math.MaxFloat64}, 0},
	} {
		values, weights := slices.Clone(c.values), slices.Clone(c.weights)
		if got, err := marks.Weigh(c.values, c.weights); !same(got, c.want) || err != api.OK {
			t.Errorf("%v by %v: %v %d, not %v", c.values, c.weights, got, err, c.want)
		}
		if !slices.EqualFunc(c.values, values, same) || !slices.EqualFunc(c.weights, weights, same) {
			t.Errorf("%v by %v have changed", values, weights)
		}
	}
}

func TestWeighErrors(t *testing.T) {
	for _, c := range []struct {
		values, weights []float64
		want            api.Errno
	}{
		{[]float64{1}, nil, api.ErrArg},
		{nil, []float64{1}, api.ErrArg},
		{[]float64{1}, []float64{1, -1}, api.ErrArg},
		{[]float64{1, 2}, []float64{math.NaN()}, api.ErrArg},
		{[]float64{1}, []float64{-1}, api.ErrMark},
		{[]float64{1}, []float64{-tiny}, api.ErrMark},
		{[]float64{1}, []float64{inf}, api.ErrMark},
		{[]float64{1}, []float64{minusInf}, api.ErrMark},
		{[]float64{1, 2}, []float64{1, noMark}, api.ErrMark},
		{[]float64{1, 2}, []float64{math.NaN(), 1}, api.ErrMark},
		{[]float64{1, noMark}, []float64{1, -1}, api.ErrMark}, // a weight of no mark is looked at, too
		{[]float64{noMark}, []float64{inf}, api.ErrMark},
	} {
		if got, err := marks.Weigh(c.values, c.weights); !same(got, 0) || err != c.want {
			t.Errorf("%v by %v: %v %d, not %d", c.values, c.weights, got, err, c.want)
		}
	}
}

func TestShowAndParse(t *testing.T) {
	for _, c := range []struct {
		f    float64
		want string
	}{
		{0, "0"},
		{1, "1"},
		{-1, "-1"},
		{62.5, "62.5"},
		{0.1, "0.1"},
		{33.333333333333336, "33.333333333333336"},
		{100, "100"},
		{0.0001, "0.0001"},
		{0.00001, "1e-05"},
		{999999, "999999"},
		{1000000, "1e+06"},
		{1234567, "1.234567e+06"},
		{123456789, "1.23456789e+08"},
		{1e21, "1e+21"},
		{tiny, "5e-324"},
		{-math.MaxFloat64, "-1.7976931348623157e+308"},
		{inf, "inf"},
		{minusInf, "-inf"},
		{noMark, "none"},
	} {
		if s := marks.Show(c.f); s != c.want {
			t.Errorf("Show(%v): %s, not %s", c.f, s, c.want)
		}
		if f, err := marks.Parse(c.want); !same(f, c.f) || err != api.OK {
			t.Errorf("Parse(%s): %v %d", c.want, f, err)
		}
	}
	for _, f := range nans() {
		if s := marks.Show(f); s != "none" {
			t.Error(s)
		}
	}
	if s := marks.Show(minus0); s != "0" {
		t.Error(s)
	}
	for _, f := range rising() {
		if g, err := marks.Parse(marks.Show(f)); !same(f, g) || err != api.OK {
			t.Error(f, g, err)
		}
	}
}

func TestParseErrors(t *testing.T) {
	for _, s := range []string{
		"", " ", "1 ", " 1", "+1", "-0", "00", "01", "1.0", "1.50", ".5", "5.", "1,5", "1_0", "0x1p0", "0x1",
		"1e6", "1e+6", "1E+06", "1000000", "1e+006", "0.00001", "1e-5", "0e+00", "1e400", "-1e400", "1e-400",
		"33.3333333333333357", "33.33333333333333571", "123456789", "NaN", "nan", "None", "NONE", "none ", "-none",
		"Inf", "+inf", "+Inf", "-Inf", "INF", "infinity", "-infinity", "a", "--1", "1\x00", "\xff",
		strings.Repeat("9", api.MaxText), "0." + strings.Repeat("0", api.MaxText) + "1",
	} {
		if f, err := marks.Parse(s); !same(f, 0) || err != api.ErrForm {
			t.Errorf("%.40q: %v %d", s, f, err)
		}
	}
}
