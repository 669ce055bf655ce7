package gauge_test

import (
	"math"
	"math/big"
	"math/rand"
	"slices"
	"strconv"
	"testing"

	"escritoire/gauge"
)

var (
	inf   = math.Inf(1)
	below = math.Copysign(0, -1) // the nought below 0
	tiny  = math.SmallestNonzeroFloat64
	huge  = math.MaxFloat64
)

// noNumbers is several that are no numbers, and differ bit by bit: of both signs, quiet and signalling.
func noNumbers() []float64 {
	return []float64{
		math.NaN(),
		math.Float64frombits(0x7ff8000000000000),
		math.Float64frombits(0xfff8000000000000),
		math.Float64frombits(0x7ff8000000000007),
		math.Float64frombits(0x7ff0000000000001),
		math.Float64frombits(0xfff0000000000001),
		math.Float64frombits(0x7fffffffffffffff),
		math.Float64frombits(0xffffffffffffffff),
	}
}

// steps is numbers each of which is behind those ahead of it in the list.
func steps() []float64 {
	return []float64{
		math.NaN(), -inf, -huge, -1e16, -2, math.Nextafter(-1, -2), -1, -0.5, -0x1p-1022, -tiny, below,
		0, tiny, 0x1p-1022, 0.5, 1, math.Nextafter(1, 2), 2, 1e16, huge, inf,
	}
}

// edgeNumbers is all of both lists.
func edgeNumbers() []float64 {
	return append(steps(), noNumbers()...)
}

// lists is lists of several lengths with numbers of all kinds, many of them twice.
func lists() [][]float64 {
	r := rand.New(rand.NewSource(3))
	l := [][]float64{nil, {}, steps(), noNumbers(), edgeNumbers()}
	for _, x := range edgeNumbers() {
		l = append(l, []float64{x})
	}
	for range 400 {
		one := make([]float64, r.Intn(90))
		for i := range one {
			one[i] = someNumber(r)
		}
		l = append(l, one)
	}
	return l
}

func someNumber(r *rand.Rand) float64 {
	switch r.Intn(4) {
	case 0:
		return noNumbers()[r.Intn(len(noNumbers()))]
	case 1:
		return math.Float64frombits(r.Uint64())
	case 2:
		return float64(r.Intn(7) - 3)
	}
	return steps()[r.Intn(len(steps()))]
}

// place is where a number stands in the order, told by its bits alone.
func place(x float64) uint64 {
	b := math.Float64bits(x)
	switch {
	case b&(1<<63-1) > 0x7ff<<52:
		return 0
	case b>>63 == 1:
		return ^b
	}
	return b | 1<<63
}

func bits(l []float64) []uint64 {
	out := make([]uint64, len(l))
	for i, x := range l {
		out[i] = math.Float64bits(x)
	}
	return out
}

func same(a, b float64) bool {
	return math.Float64bits(a) == math.Float64bits(b)
}

// is asks for a number, bit by bit, or, if it is no number, for any that is none.
func is(t *testing.T, what string, got, want float64) {
	t.Helper()
	if !same(got, want) && !(got != got && want != want) {
		t.Errorf("%s: %v (%x), not %v (%x)", what, got, math.Float64bits(got), want, math.Float64bits(want))
	}
}

// P3.1, P3.2: each two of the steps, in both orders.
func TestCompareTheSteps(t *testing.T) {
	for i, a := range steps() {
		for j, b := range steps() {
			want := 0
			if i < j {
				want = -1
			} else if i > j {
				want = 1
			}
			if c := gauge.Compare(a, b); c != want {
				t.Errorf("Compare(%v, %v): %d, not %d", a, b, c, want)
			}
		}
	}
}

// P3.1: all that are no numbers are alike, and ahead of all others.
func TestCompareNoNumbers(t *testing.T) {
	for _, a := range noNumbers() {
		for _, b := range noNumbers() {
			if c := gauge.Compare(a, b); c != 0 {
				t.Errorf("Compare(%x, %x): %d", math.Float64bits(a), math.Float64bits(b), c)
			}
		}
		for _, b := range steps()[1:] {
			if gauge.Compare(a, b) != -1 || gauge.Compare(b, a) != 1 {
				t.Errorf("%x isn't ahead of %v", math.Float64bits(a), b)
			}
		}
	}
}

// P3.2: each two stand in the order, and of three it is one.
func TestTheOrderIsOne(t *testing.T) {
	r := rand.New(rand.NewSource(1))
	for range 20000 {
		a, b, c := someNumber(r), someNumber(r), someNumber(r)
		ab, bc, ac := gauge.Compare(a, b), gauge.Compare(b, c), gauge.Compare(a, c)
		if gauge.Compare(a, a) != 0 || gauge.Compare(b, a) != -ab || ab < -1 || ab > 1 {
			t.Fatalf("%v and %v: %d, and %d", a, b, ab, gauge.Compare(b, a))
		}
		if ab <= 0 && bc <= 0 && (ac > 0 || ac == 0 && ab+bc != 0) {
			t.Fatalf("%v, %v, %v: %d, %d, %d", a, b, c, ab, bc, ac)
		}
		if (ab < 0) != (place(a) < place(b)) || (ab == 0) != (place(a) == place(b)) {
			t.Fatalf("%v and %v: %d", a, b, ab)
		}
	}
}

// P3.1: a list that is nil, or of no numbers.
func TestLeastAndGreatestOfNone(t *testing.T) {
	for _, l := range [][]float64{nil, {}, make([]float64, 0, 4), steps()[:0]} {
		if x, ok := gauge.Least(l); ok || !same(x, 0) {
			t.Error("Least:", x, ok)
		}
		if x, ok := gauge.Greatest(l); ok || !same(x, 0) {
			t.Error("Greatest:", x, ok)
		}
	}
}

// P3.1: one number; several; the noughts; what is no number.
func TestLeastAndGreatest(t *testing.T) {
	n := noNumbers()[3]
	for _, x := range edgeNumbers() {
		least, ok := gauge.Least([]float64{x})
		greatest, ok2 := gauge.Greatest([]float64{x})
		if !ok || !ok2 || !same(least, x) || !same(greatest, x) {
			t.Errorf("of %v alone: %v %v", x, least, greatest)
		}
	}
	for _, c := range []struct {
		l               []float64
		least, greatest float64
	}{
		{[]float64{2, 1, 3}, 1, 3},
		{[]float64{3, 2, 1}, 1, 3},
		{[]float64{-1, -2, -3}, -3, -1},
		{[]float64{1, n, -inf}, n, 1},
		{[]float64{n, 1, -inf}, n, 1},
		{[]float64{n, -inf}, n, -inf},
		{[]float64{0, below}, below, 0},
		{[]float64{below, 0}, below, 0},
		{[]float64{inf, -inf, huge, -huge}, -inf, inf},
		{[]float64{tiny, 0, -tiny, below}, -tiny, tiny},
	} {
		if x, ok := gauge.Least(c.l); !ok || !same(x, c.least) {
			t.Errorf("Least(%v): %v %v", c.l, x, ok)
		}
		if x, ok := gauge.Greatest(c.l); !ok || !same(x, c.greatest) {
			t.Errorf("Greatest(%v): %v %v", c.l, x, ok)
		}
	}
}

// P3.1: the first of those that are alike.
func TestLeastAndGreatestAmongAlike(t *testing.T) {
	n := noNumbers()
	for i := range n {
		l := append(slices.Clone(n[i:]), n[:i]...)
		if x, ok := gauge.Greatest(l); !ok || !same(x, n[i]) {
			t.Errorf("Greatest: %x, not %x", math.Float64bits(x), math.Float64bits(n[i]))
		}
		if x, ok := gauge.Least(l); !ok || !same(x, n[i]) {
			t.Errorf("Least: %x, not %x", math.Float64bits(x), math.Float64bits(n[i]))
		}
		if x, ok := gauge.Least(append([]float64{5, -inf}, l...)); !ok || !same(x, n[i]) {
			t.Errorf("Least behind numbers: %x, not %x", math.Float64bits(x), math.Float64bits(n[i]))
		}
	}
}

// P3.1: of any list none is ahead of the least, none behind the greatest, and each is the first such.
func TestLeastAndGreatestOfAny(t *testing.T) {
	for _, l := range lists() {
		if len(l) == 0 {
			continue
		}
		least, greatest := l[0], l[0]
		for _, x := range l {
			if place(x) < place(least) {
				least = x
			}
			if place(x) > place(greatest) {
				greatest = x
			}
		}
		if x, ok := gauge.Least(l); !ok || !same(x, least) {
			t.Fatalf("Least(%v): %v", l, x)
		}
		if x, ok := gauge.Greatest(l); !ok || !same(x, greatest) {
			t.Fatalf("Greatest(%v): %v", l, x)
		}
	}
}

// P3.1: from the left, from 0 on, each step rounded; of none 0.
func TestSum(t *testing.T) {
	for _, c := range []struct {
		l    []float64
		want float64
	}{
		{nil, 0},
		{[]float64{}, 0},
		{[]float64{below}, 0},
		{[]float64{below, below}, 0},
		{[]float64{4}, 4},
		{[]float64{1, 2, 3.5}, 6.5},
		{[]float64{1, 1e16, -1e16}, 0},
		{[]float64{-1e16, 1e16, 1}, 1},
		{[]float64{.1, .1, .1, .1, .1, .1, .1, .1, .1, .1}, 0.9999999999999999},
		{[]float64{tiny, tiny}, 2 * tiny},
		{[]float64{huge, huge}, inf},
		{[]float64{huge, huge, -huge, -huge}, inf},
		{[]float64{huge, -huge, huge}, huge},
		{[]float64{-huge, -huge}, -inf},
		{[]float64{inf, 1, -huge}, inf},
		{[]float64{inf, -inf}, math.NaN()},
		{[]float64{-inf, 3, inf}, math.NaN()},
		{[]float64{1, math.NaN(), 2}, math.NaN()},
		{[]float64{math.NaN(), inf}, math.NaN()},
	} {
		is(t, "Sum", gauge.Sum(c.l), c.want)
	}
}

// P3.1: the sum divided by how many there are; of none no number.
func TestMean(t *testing.T) {
	for _, c := range []struct {
		l    []float64
		want float64
	}{
		{nil, math.NaN()},
		{[]float64{}, math.NaN()},
		{[]float64{0}, 0},
		{[]float64{below}, 0},
		{[]float64{-7}, -7},
		{[]float64{1, 2}, 1.5},
		{[]float64{0, 0, 1}, 1.0 / 3},
		{[]float64{tiny, 0, 0}, 0},
		{[]float64{-tiny, 0, 0}, below},
		{[]float64{huge, huge}, inf},
		{[]float64{huge, 0}, huge / 2},
		{[]float64{-inf, 5}, -inf},
		{[]float64{inf, -inf}, math.NaN()},
		{[]float64{1, math.NaN()}, math.NaN()},
	} {
		is(t, "Mean", gauge.Mean(c.l), c.want)
	}
	for _, l := range lists() {
		sum := 0.0
		for _, x := range l {
			sum += x
		}
		is(t, "Sum of any", gauge.Sum(l), sum)
		is(t, "Mean of any", gauge.Mean(l), sum/float64(len(l)))
	}
}

// P3.1: 0 below the line, and 0 or another number above it; the sign of nought; numbers that no float64 is.
func TestRatio(t *testing.T) {
	for _, c := range []struct {
		a, b int
		want float64
	}{
		{0, 0, math.NaN()},
		{1, 0, inf},
		{-1, 0, -inf},
		{math.MaxInt, 0, inf},
		{math.MinInt, 0, -inf},
		{0, 1, 0},
		{0, -1, below},
		{0, math.MinInt, below},
		{1, 2, 0.5},
		{1, -2, -0.5},
		{-6, -4, 1.5},
		{7, 2, 3.5},
		{1, 3, 1.0 / 3},
		{10, 1, 10},
		{1<<53 + 1, 1, 1 << 53},
		{1<<53 + 3, 1, 1<<53 + 4},
		{math.MaxInt, 1, 1 << 63},
		{math.MinInt, 1, -1 << 63},
		{math.MinInt, -1, 1 << 63},
		{math.MaxInt, math.MinInt, -1},
		{math.MaxInt, math.MaxInt - 1, 1},
		{1, math.MinInt, -0x1p-63},
	} {
		is(t, "Ratio of "+strconv.Itoa(c.a)+" and "+strconv.Itoa(c.b), gauge.Ratio(c.a, c.b), c.want)
	}
}

// P3.1: ahead of lo, behind hi, between; edges that are x; lo behind hi; edges that are no numbers.
func TestClamp(t *testing.T) {
	n, other := noNumbers()[2], noNumbers()[4]
	for _, c := range [][4]float64{
		{0, 1, 3, 1}, {2, 1, 3, 2}, {5, 1, 3, 3}, {1, 1, 3, 1}, {3, 1, 3, 3}, {9, 2, 2, 2}, {-9, 2, 2, 2},
		{-inf, 1, 3, 1}, {inf, 1, 3, 3}, {inf, -inf, inf, inf}, {-inf, -inf, inf, -inf}, {7, -inf, inf, 7},
		{below, 0, 1, 0}, {0, -1, below, below}, {below, below, 0, below}, {0, below, 0, 0}, {1, below, 0, 0}, {-1, below, 0, below},
		{2, 3, 1, 3}, {5, 3, 1, 3}, {0, 3, 1, 3}, {3, 3, 1, 3}, {1, 3, 1, 3}, {inf, 3, 1, 3}, {-inf, 3, 1, 3}, {n, 3, 1, 3},
		{0, 0, below, 0}, {below, 0, below, 0}, {5, inf, -inf, inf},
		{n, 1, 3, 1}, {n, -inf, inf, -inf}, {n, n, 3, n}, {n, other, 3, n}, {n, other, other, n},
		{2, n, 3, 2}, {5, n, 3, 3}, {-inf, n, 3, -inf},
		{2, n, other, other}, {-inf, n, other, other}, {inf, other, n, n},
		{2, 1, n, 1}, {0, 1, n, 1}, {n, 1, n, 1}, {5, -inf, n, -inf},
	} {
		if x := gauge.Clamp(c[0], c[1], c[2]); !same(x, c[3]) {
			t.Errorf("Clamp(%v, %v, %v): %v, not %v", c[0], c[1], c[2], x, c[3])
		}
	}
}

// P3.1: of any three.
func TestClampOfAny(t *testing.T) {
	for _, x := range edgeNumbers() {
		for _, lo := range edgeNumbers() {
			for _, hi := range edgeNumbers() {
				want := x
				if place(lo) > place(hi) || place(x) < place(lo) {
					want = lo
				} else if place(x) > place(hi) {
					want = hi
				}
				if got := gauge.Clamp(x, lo, hi); !same(got, want) {
					t.Fatalf("Clamp(%v, %v, %v): %v, not %v", x, lo, hi, got, want)
				}
			}
		}
	}
}

// P3.1, P3.2: the steps from any order, and alike ones as they stand.
func TestSort(t *testing.T) {
	r := rand.New(rand.NewSource(2))
	for range 100 {
		l := steps()
		r.Shuffle(len(l), func(i, j int) { l[i], l[j] = l[j], l[i] })
		if got := gauge.Sort(l); !slices.Equal(bits(got), bits(steps())) {
			t.Fatalf("Sort(%v): %v", l, got)
		}
	}
	n := noNumbers()
	got := gauge.Sort([]float64{n[5], 0, n[2], below, n[7], 0, inf, n[1], -inf, n[2], below})
	want := []float64{n[5], n[2], n[7], n[1], n[2], -inf, below, below, 0, 0, inf}
	if !slices.Equal(bits(got), bits(want)) {
		t.Errorf("%x, not %x", bits(got), bits(want))
	}
	if len(gauge.Sort(nil)) != 0 || len(gauge.Sort([]float64{})) != 0 {
		t.Error("Sort of none")
	}
}

// P3.2: of any list, sorted by hand: the same numbers, bit by bit, each behind those that aren't behind it.
func TestSortOfAny(t *testing.T) {
	for _, l := range lists() {
		var want []float64
		for _, x := range l {
			i := len(want)
			for i > 0 && place(want[i-1]) > place(x) {
				i--
			}
			want = slices.Insert(want, i, x)
		}
		if got := gauge.Sort(l); !slices.Equal(bits(got), bits(want)) {
			t.Fatalf("Sort(%x): %x, not %x", bits(l), bits(got), bits(want))
		}
	}
}

// P3.1: of what is there, once and twice, and of what isn't.
func TestRank(t *testing.T) {
	n := noNumbers()
	l := []float64{2, n[0], 0, n[5], 2, below, -inf, inf, 3}
	for _, c := range []struct {
		x    float64
		want int
	}{
		{n[0], 0}, {n[3], 0}, {-inf, 2}, {-huge, 3}, {-1, 3}, {below, 3}, {0, 4}, {tiny, 5}, {1, 5},
		{2, 5}, {2.5, 7}, {3, 7}, {4, 8}, {inf, 8},
	} {
		if got := gauge.Rank(l, c.x); got != c.want {
			t.Errorf("Rank of %v: %d, not %d", c.x, got, c.want)
		}
	}
	for _, x := range edgeNumbers() {
		if gauge.Rank(nil, x) != 0 || gauge.Rank([]float64{}, x) != 0 || gauge.Rank([]float64{x}, x) != 0 {
			t.Errorf("Rank of %v in none, or in itself", x)
		}
	}
}

// P3.1: a number's rank is where it stands first once all are sorted.
func TestRankOfAny(t *testing.T) {
	for _, l := range lists() {
		for _, x := range append(edgeNumbers(), l...) {
			want := 0
			for _, y := range l {
				if place(y) < place(x) {
					want++
				}
			}
			if got := gauge.Rank(l, x); got != want {
				t.Fatalf("Rank(%v, %v): %d, not %d", l, x, got, want)
			}
		}
	}
}

// P3.1: no edges, one, several; in no order; twice; those that are no numbers; noughts.
func TestBins(t *testing.T) {
	n := noNumbers()
	nums := []float64{1, 2, 3, n[1], inf}
	for _, c := range []struct {
		l, edges []float64
		want     []int
	}{
		{nil, nil, []int{0}},
		{[]float64{}, []float64{}, []int{0}},
		{nums, nil, []int{5}},
		{nums, []float64{}, []int{5}},
		{nil, []float64{1, 2}, []int{0, 0, 0}},
		{nums, []float64{2}, []int{3, 2}},
		{nums, []float64{1, 2.5}, []int{2, 1, 2}},
		{nums, []float64{2.5, 1}, []int{3, 0, 2}},
		{nums, []float64{2, 1, 3}, []int{3, 0, 1, 1}},
		{nums, []float64{2, 2, 3, 3}, []int{3, 0, 1, 0, 1}},
		{nums, []float64{2, 3, 2, inf}, []int{3, 1, 0, 1, 0}},
		{nums, []float64{n[4]}, []int{1, 4}},
		{nums, []float64{n[4], n[1], 1}, []int{1, 0, 1, 3}},
		{nums, []float64{1, n[4], 2}, []int{2, 0, 1, 2}},
		{nums, []float64{inf, 1}, []int{5, 0, 0}},
		{nums, []float64{-inf}, []int{1, 4}},
		{[]float64{below, 0, -inf, tiny}, []float64{-inf, below, 0}, []int{1, 1, 1, 1}},
		{[]float64{below, 0}, []float64{0, below}, []int{2, 0, 0}},
		{n, []float64{-inf, inf}, []int{len(n), 0, 0}},
	} {
		if got := gauge.Bins(c.l, c.edges); !slices.Equal(got, c.want) {
			t.Errorf("Bins(%v, %v): %v, not %v", c.l, c.edges, got, c.want)
		}
	}
}

// P3.1: of any two lists, counted edge by edge; each number is in one bin.
func TestBinsOfAny(t *testing.T) {
	all := lists()
	for k, l := range all {
		edges := all[(k*7+3)%len(all)]
		edges = edges[:min(len(edges), k%12)]
		want := make([]int, len(edges)+1)
		for i := range want {
			for _, x := range l {
				behindAll := true
				for _, e := range edges[:i] {
					behindAll = behindAll && place(x) > place(e)
				}
				if behindAll && (i == len(edges) || place(x) <= place(edges[i])) {
					want[i]++
				}
			}
		}
		if got := gauge.Bins(l, edges); !slices.Equal(got, want) {
			t.Fatalf("Bins(%v, %v): %v, not %v", l, edges, got, want)
		}
	}
}

// P3.1: what is no number, infinities, noughts, the greatest and the least number, where g changes its form.
func TestShow(t *testing.T) {
	for _, c := range []struct {
		x    float64
		want string
	}{
		{inf, "inf"}, {-inf, "-inf"}, {0, "0"}, {below, "-0"},
		{huge, "1.7976931348623157e+308"}, {-huge, "-1.7976931348623157e+308"},
		{tiny, "5e-324"}, {-tiny, "-5e-324"}, {0x1p-1022, "2.2250738585072014e-308"},
		{1, "1"}, {-1, "-1"}, {1.5, "1.5"}, {100, "100"}, {0.1, "0.1"}, {math.Nextafter(0.3, 1), "0.30000000000000004"}, {1.0 / 3, "0.3333333333333333"},
		{100000, "100000"}, {123456, "123456"}, {1e20, "1e+20"}, {123456789, "1.23456789e+08"}, {1 << 53, "9.007199254740992e+15"},
		{1e21, "1e+21"}, {0.0001, "0.0001"}, {0.00001, "1e-05"}, {-0.00012345, "-0.00012345"},
	} {
		if got := gauge.Show(c.x); got != c.want {
			t.Errorf("Show(%x): %s, not %s", math.Float64bits(c.x), got, c.want)
		}
	}
	for _, x := range noNumbers() {
		if got := gauge.Show(x); got != "nan" {
			t.Errorf("Show(%x): %s", math.Float64bits(x), got)
		}
	}
}

// P3.1: what is shown is this number, and with a digit less it would not be.
func TestShowIsTheShortest(t *testing.T) {
	r := rand.New(rand.NewSource(4))
	for range 5000 {
		x := someNumber(r)
		if x != x || math.IsInf(x, 0) {
			continue
		}
		s := gauge.Show(x)
		back, err := strconv.ParseFloat(s, 64)
		if err != nil || !same(back, x) {
			t.Fatalf("%s isn't %x", s, math.Float64bits(x))
		}
		if x == 0 {
			continue
		}
		if d := digits(s); d > 1 {
			short, _ := strconv.ParseFloat(new(big.Float).SetPrec(2000).SetFloat64(x).Text('e', d-2), 64)
			if same(short, x) {
				t.Fatalf("%s has more digits than it needs", s)
			}
		}
	}
}

// digits counts the digits that a shown number other than 0 rests on.
func digits(s string) int {
	n, noughts := 0, 0
	for _, c := range s {
		switch {
		case c == 'e':
			return n
		case c == '0' && n == 0:
		case c == '0':
			noughts++
		case c >= '1' && c <= '9':
			n += noughts + 1
			noughts = 0
		}
	}
	return n
}

// R3, R4: lists that are handed in stay as they are, and share nothing with what is answered.
func TestListsAreNotShared(t *testing.T) {
	for _, l := range lists() {
		whole := append(slices.Clone(l), 41, 42)
		given := whole[:len(l)]
		edges := slices.Clone(given)
		before := bits(whole)
		sorted := gauge.Sort(given)
		gauge.Least(given)
		gauge.Greatest(given)
		gauge.Sum(given)
		gauge.Mean(given)
		gauge.Rank(given, 1)
		gauge.Bins(given, given)
		gauge.Bins(given, edges)
		for i := range sorted {
			sorted[i] = 40
		}
		sorted = append(sorted, 40)
		if !slices.Equal(bits(whole), before) || !slices.Equal(bits(edges), before[:len(l)]) {
			t.Fatal("a list that was handed in was changed")
		}
		again := gauge.Sort(given)
		for i := range given {
			given[i] = 39
		}
		if slices.Contains(again, 39) {
			t.Fatal("a list that was handed in was kept")
		}
	}
}

// R6: the same is answered again, whatever was asked between.
func TestOneAnswer(t *testing.T) {
	for _, l := range lists() {
		sorted, bins, sum := gauge.Sort(l), gauge.Bins(l, []float64{1, -1, 2}), gauge.Sum(l)
		gauge.Sort(edgeNumbers())
		gauge.Bins(edgeNumbers(), steps())
		if !slices.Equal(bits(sorted), bits(gauge.Sort(l))) || !slices.Equal(bins, gauge.Bins(l, []float64{1, -1, 2})) || !same(sum, gauge.Sum(l)) {
			t.Fatalf("two answers of %v", l)
		}
	}
}

// P3.1: the chapter's examples.
func TestExamples(t *testing.T) {
	if x, ok := gauge.Least([]float64{1, math.NaN(), -inf}); !ok || x == x {
		t.Error("Least:", x, ok)
	}
	if x := gauge.Ratio(-1, 0); !math.IsInf(x, -1) {
		t.Error("Ratio:", x)
	}
	if s := gauge.Show(gauge.Ratio(0, 0)); s != "nan" {
		t.Error("Show:", s)
	}
}
