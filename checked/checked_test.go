package checked

import (
	"math"
	"math/big"
	"slices"
	"testing"

	"gluepot/api"
)

// numbers are the edges of what is within, of 32 and 63 bits, and of what has a square that is within.
func numbers() []int {
	return []int{
		math.MinInt, math.MinInt + 1, -1 << 62, -1 << 32, -2, -1,
		0, 1, 2, 3, 5, 7,
		1<<31 - 1, 1 << 31, 1<<31 + 1,
		3037000499, 3037000500, // the roots next to 2^63
		1<<32 - 1, 1 << 32, 1<<32 + 1,
		1<<61 - 1, 1 << 61, math.MaxInt / 3, math.MaxInt/3 + 1,
		1<<62 - 1, 1 << 62, 1<<62 + 1,
		math.MaxInt - 1, math.MaxInt,
	}
}

// wantDot works the sum of the products out with numbers that have no end.
func wantDot(a, b []int) (int, bool) {
	if len(a) != len(b) {
		return 0, false
	}
	total := new(big.Int)
	for i := range a {
		x, y := big.NewInt(int64(a[i])), big.NewInt(int64(b[i]))
		if x.Sign() < 0 || y.Sign() < 0 {
			return 0, false
		}
		total.Add(total, x.Mul(x, y))
	}
	if total.Cmp(big.NewInt(api.MaxCount)) > 0 {
		return 0, false
	}
	return int(total.Int64()), true
}

func ones(n int) []int {
	return slices.Repeat([]int{1}, n)
}

func hold(t *testing.T, call string, of any, n int, ok bool, wantN int, wantOK bool) {
	t.Helper()
	if n != wantN || ok != wantOK {
		t.Errorf("%s of %d: %d, %t; want %d, %t", call, of, n, ok, wantN, wantOK)
	}
}

// P6.1: the sum of two, by examples.
func TestAdd(t *testing.T) {
	for _, x := range []struct {
		a, b, n int
		ok      bool
	}{
		{0, 0, 0, true},
		{3, 4, 7, true},
		{1 << 62, 1 << 62, 0, false},
		{1 << 62, 1<<62 - 1, math.MaxInt, true},
		{math.MaxInt, 0, math.MaxInt, true},
		{0, math.MaxInt, math.MaxInt, true},
		{math.MaxInt, 1, 0, false},
		{1, math.MaxInt, 0, false},
		{math.MaxInt, math.MaxInt, 0, false},
		// The sum would be within, but a number isn't.
		{-1, 5, 0, false},
		{5, -1, 0, false},
		{math.MaxInt, -1, 0, false},
		{math.MinInt, math.MaxInt, 0, false},
		// The sum would go round to 0 and to what is within.
		{math.MinInt, math.MinInt, 0, false},
		{math.MinInt, -1, 0, false},
	} {
		n, ok := Add(x.a, x.b)
		hold(t, "Add", []int{x.a, x.b}, n, ok, x.n, x.ok)
	}
}

// P6.1: the product of two, by examples.
func TestMul(t *testing.T) {
	for _, x := range []struct {
		a, b, n int
		ok      bool
	}{
		{0, 0, 0, true},
		{3, 4, 12, true},
		{math.MaxInt, 0, 0, true},
		{0, math.MaxInt, 0, true},
		{math.MaxInt, 1, math.MaxInt, true},
		{1, math.MaxInt, math.MaxInt, true},
		{math.MaxInt, 2, 0, false},
		{3037000499, 3037000499, 9223372030926249001, true},
		{3037000500, 3037000500, 0, false},
		// 2^63 - 1 is 7 times that number.
		{7, 1317624576693539401, math.MaxInt, true},
		// 2^63, 2^64 and beyond: the lower half alone would be 2^63, 0 and within.
		{1 << 31, 1 << 32, 0, false},
		{1 << 32, 1 << 32, 0, false},
		{1 << 62, 5, 0, false},
		{1<<32 + 1, 1 << 32, 0, false},
		{math.MaxInt, math.MaxInt, 0, false},
		// The product would be within, but a number isn't.
		{-1, 0, 0, false},
		{0, -1, 0, false},
		{-2, -3, 0, false},
		{-1, -1, 0, false},
		{math.MinInt, 0, 0, false},
		{math.MinInt, math.MinInt, 0, false},
		{-2, 3, 0, false},
	} {
		n, ok := Mul(x.a, x.b)
		hold(t, "Mul", []int{x.a, x.b}, n, ok, x.n, x.ok)
	}
}

// P6.1: the sum of as many as one likes, by examples.
func TestSum(t *testing.T) {
	for _, x := range []struct {
		l  []int
		n  int
		ok bool
	}{
		{nil, 0, true},
		{[]int{}, 0, true},
		{[]int{9}, 9, true},
		{[]int{1, 2, 3}, 6, true},
		{[]int{1, math.MaxInt - 1, 0}, math.MaxInt, true},
		{[]int{1, math.MaxInt - 1, 1}, 0, false},
		{[]int{math.MaxInt, 1}, 0, false},
		// One that isn't within, at each place, and where a sum without looking would come back.
		{[]int{-1}, 0, false},
		{[]int{-1, 2, 3}, 0, false},
		{[]int{1, -2, 3}, 0, false},
		{[]int{1, 2, -3}, 0, false},
		{[]int{1, math.MaxInt, -5}, 0, false},
		{[]int{1 << 62, 1 << 62, 1 << 62, 1 << 62}, 0, false},
		{[]int{1 << 62, 1 << 62, 1 << 62, 1 << 62, 7}, 0, false},
		{[]int{math.MinInt, math.MinInt}, 0, false},
	} {
		n, ok := Sum(x.l...)
		hold(t, "Sum", x.l, n, ok, x.n, x.ok)
	}
	n, ok := Sum()
	hold(t, "Sum", nil, n, ok, 0, true)
}

// P6.1: the sum of products, by examples.
func TestDot(t *testing.T) {
	for _, x := range []struct {
		a, b []int
		n    int
		ok   bool
	}{
		{nil, nil, 0, true},
		{nil, []int{}, 0, true},
		{[]int{}, nil, 0, true},
		{[]int{2, 3}, []int{5, 7}, 31, true},
		{[]int{2, 3}, []int{7, 5}, 29, true},
		{[]int{math.MaxInt, 0}, []int{1, math.MaxInt}, math.MaxInt, true},
		{[]int{math.MaxInt, 1}, []int{1, 1}, 0, false},
		{[]int{3037000499, 1}, []int{3037000499, 5928526806}, math.MaxInt, true},
		{[]int{3037000499, 1}, []int{3037000499, 5928526807}, 0, false},
		// Not of one length, whichever is longer and whatever is over.
		{[]int{1}, nil, 0, false},
		{nil, []int{1}, 0, false},
		{[]int{1, 2}, []int{1}, 0, false},
		{[]int{1}, []int{1, 0}, 0, false},
		{[]int{1, 0}, []int{1}, 0, false},
		// A product that isn't within, at each place.
		{[]int{1 << 40}, []int{1 << 40}, 0, false},
		{[]int{1 << 40, 1}, []int{1 << 40, 1}, 0, false},
		{[]int{1, 1 << 32}, []int{1, 1 << 32}, 0, false},
		// The sum isn't, or would come back.
		{[]int{1 << 62, 1 << 62}, []int{1, 1}, 0, false},
		{[]int{1 << 62, 1 << 62, 1 << 62, 1 << 62}, []int{1, 1, 1, 1}, 0, false},
		// A number isn't, on either side, though the product would be.
		{[]int{-1}, []int{0}, 0, false},
		{[]int{0}, []int{-1}, 0, false},
		{[]int{-2}, []int{-3}, 0, false},
		{[]int{5, -1}, []int{5, 1}, 0, false},
		{[]int{5, 1}, []int{5, -1}, 0, false},
		{[]int{1, 0, 1}, []int{1, math.MinInt, 1}, 0, false},
	} {
		n, ok := Dot(x.a, x.b)
		hold(t, "Dot", [][]int{x.a, x.b}, n, ok, x.n, x.ok)
	}
}

// P6.1: all edges with all edges, against numbers that have no end.
func TestEdges(t *testing.T) {
	for _, a := range numbers() {
		for _, b := range numbers() {
			sum, fits := wantDot([]int{a, b}, ones(2))
			n, ok := Add(a, b)
			hold(t, "Add", []int{a, b}, n, ok, sum, fits)
			n, ok = Sum(a, b)
			hold(t, "Sum", []int{a, b}, n, ok, sum, fits)
			product, fits := wantDot([]int{a}, []int{b})
			n, ok = Mul(a, b)
			hold(t, "Mul", []int{a, b}, n, ok, product, fits)
			for _, c := range numbers() {
				sum, fits := wantDot([]int{a, b, c}, ones(3))
				n, ok = Sum(a, b, c)
				hold(t, "Sum", []int{a, b, c}, n, ok, sum, fits)
				for _, d := range numbers() {
					dot, fits := wantDot([]int{a, b}, []int{c, d})
					n, ok = Dot([]int{a, b}, []int{c, d})
					hold(t, "Dot", [][]int{{a, b}, {c, d}}, n, ok, dot, fits)
				}
			}
		}
	}
}

// P6.1: of long lists, up to the last number that still fits, and the next.
func TestLong(t *testing.T) {
	const size = 1 << 15
	rest := math.MaxInt - (size-1)*(1<<47)
	long := append(slices.Repeat([]int{1 << 47}, size-1), rest)
	n, ok := Sum(long...)
	hold(t, "Sum", size, n, ok, math.MaxInt, true)
	n, ok = Dot(long, ones(size))
	hold(t, "Dot", size, n, ok, math.MaxInt, true)
	long[size-1]++
	n, ok = Sum(long...)
	hold(t, "Sum", size, n, ok, 0, false)
	n, ok = Dot(ones(size), long)
	hold(t, "Dot", size, n, ok, 0, false)
}

// R4: lists that are handed in stay as they are, and what lies behind their length isn't read.
func TestMemory(t *testing.T) {
	memory := []int{2, 3, -1, -1}
	other := []int{5, 7, -1}
	n, ok := Sum(memory[:2]...)
	hold(t, "Sum", memory[:2], n, ok, 5, true)
	n, ok = Dot(memory[:2], other[:2])
	hold(t, "Dot", [][]int{memory[:2], other[:2]}, n, ok, 31, true)
	n, ok = Dot(memory[:2], memory[:2])
	hold(t, "Dot", memory[:2], n, ok, 13, true)
	if !slices.Equal(memory, []int{2, 3, -1, -1}) || !slices.Equal(other, []int{5, 7, -1}) {
		t.Error("now", memory, other)
	}
}

// R6: the same again, behind calls that told false too.
func TestSameAgain(t *testing.T) {
	for range 3 {
		n, ok := Sum(1, math.MaxInt)
		hold(t, "Sum", []int{1, math.MaxInt}, n, ok, 0, false)
		n, ok = Sum(1, 2)
		hold(t, "Sum", []int{1, 2}, n, ok, 3, true)
		n, ok = Dot([]int{2}, []int{-1})
		hold(t, "Dot", [][]int{{2}, {-1}}, n, ok, 0, false)
		n, ok = Dot([]int{2}, []int{4})
		hold(t, "Dot", [][]int{{2}, {4}}, n, ok, 8, true)
	}
}
