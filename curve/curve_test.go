package curve_test

import (
	"math"
	"math/big"
	"math/rand"
	"slices"
	"testing"

	"stowage/api"
	"stowage/curve"
)

// ends: numbers at their ends, and near what the layer sets apart.
func ends() []int {
	return []int{
		math.MinInt, math.MinInt + 1, -1 << 52, -1 << 20, -2, -1, 0, 1, 2, 3, api.MaxList - 1, api.MaxList, api.MaxList + 1,
		1<<20 - 1, 1 << 20, 1<<20 + 1, 1<<52 - 1, 1 << 52, 1<<52 + 1, 1 << 53, 1<<53 + 1, math.MaxInt - 1, math.MaxInt,
	}
}

// someCounts: n counts below most, the same in each run with one seed.
func someCounts(seed, n, most int) []int {
	r := rand.New(rand.NewSource(int64(seed)))
	counts := make([]int, n)
	for i := range counts {
		counts[i] = r.Intn(most)
	}
	return counts
}

// someCurve: a sound curve of n numbers, which grows by less than most at each size.
func someCurve(seed, n, most int) api.Curve {
	gains := someCounts(seed, n, most)
	for i := range gains[1:] {
		gains[i+1] += gains[i]
	}
	return gains
}

// ofAsSaid: Of as the document says it, a sum of its own for each size, of any size.
func ofAsSaid(counts []int, times int) (api.Curve, api.Errno) {
	if len(counts) >= 4096 || times < 0 || times > 1048576 || slices.ContainsFunc(counts, func(n int) bool { return n < 0 || n > 1048576 }) {
		return nil, api.ErrArg
	}
	var c api.Curve
	for size := range len(counts) + 1 {
		sum := new(big.Int)
		for _, n := range counts[:size] {
			sum.Add(sum, big.NewInt(int64(n)))
		}
		c = append(c, int(sum.Mul(sum, big.NewInt(int64(times))).Int64()))
	}
	return c, api.OK
}

// soundAsSaid: is a curve sound, as the document says it?
func soundAsSaid(c api.Curve) bool {
	if len(c) < 1 || len(c) > 4096 || !slices.IsSorted(c) {
		return false
	}
	return slices.Min(c) >= 0 && slices.Max(c) <= 4503599627370496
}

// product: x (b - a), of any size.
func product(x, b, a int) *big.Int {
	out := big.NewInt(int64(b))
	return out.Mul(out.Sub(out, big.NewInt(int64(a))), big.NewInt(int64(x)))
}

// below: is c[s] (b - a) at most c[a] (b - s) + c[b] (s - a)?
func below(c api.Curve, a, s, b int) bool {
	line := product(c[a], b, s)
	return product(c[s], b, a).Cmp(line.Add(line, product(c[b], s, a))) <= 0
}

// hullAsSaid: Hull as the document says it, all pairs of sizes looked at for each size.
func hullAsSaid(c api.Curve) ([]int, api.Errno) {
	if !soundAsSaid(c) {
		return nil, api.ErrForm
	}
	var corners []int
	for s := range c {
		if s == 0 || s == len(c)-1 || isCorner(c, s) {
			corners = append(corners, s)
		}
	}
	return corners, api.OK
}

func isCorner(c api.Curve, s int) bool {
	for a := range s {
		for b := s + 1; b < len(c); b++ {
			if below(c, a, s, b) {
				return false
			}
		}
	}
	return true
}

func atAsSaid(c api.Curve, size int) int {
	if len(c) == 0 || size < 0 {
		return 0
	}
	if size > len(c)-1 {
		size = len(c) - 1
	}
	return c[size]
}

// ratioAsSaid: Ratio as the document says it, by numbers of any size, rounded to floats of 53 bits.
func ratioAsSaid(c api.Curve, size, refs int) float64 {
	h := atAsSaid(c, size)
	if refs <= 0 {
		return math.NaN()
	}
	if h >= refs {
		return 0
	}
	if h <= 0 {
		return 1
	}
	missed := new(big.Float).SetPrec(53).SetInt(product(1, refs, h))
	all := new(big.Float).SetPrec(53).SetInt64(int64(refs))
	out, _ := new(big.Float).SetPrec(53).Quo(missed, all).Float64()
	return out
}

func wantOf(t *testing.T, counts []int, times int, want ...int) {
	t.Helper()
	got, e := curve.Of(counts, times)
	if !slices.Equal(got, want) || e != api.OK {
		t.Errorf("Of(%v, %d) = %v, %d, want %v", counts, times, got, e, want)
	}
}

func refusedOf(t *testing.T, counts []int, times int) {
	t.Helper()
	if got, e := curve.Of(counts, times); len(got) != 0 || e != api.ErrArg {
		t.Errorf("Of(%d counts, %d) = %v, %d, want ErrArg", len(counts), times, got, e)
	}
}

func wantHull(t *testing.T, c api.Curve, want ...int) {
	t.Helper()
	got, e := curve.Hull(c)
	if !slices.Equal(got, want) || e != api.OK {
		t.Errorf("Hull(%v) = %v, %d, want %v", c, got, e, want)
	}
}

func refusedHull(t *testing.T, c api.Curve) {
	t.Helper()
	if got, e := curve.Hull(c); len(got) != 0 || e != api.ErrForm {
		t.Errorf("Hull(%v) = %v, %d, want ErrForm", c, got, e)
	}
}

func wantAt(t *testing.T, c api.Curve, size, want int) {
	t.Helper()
	if got := curve.At(c, size); got != want {
		t.Errorf("At(%v, %d) = %d, want %d", c, size, got, want)
	}
}

// wantRatio: the float is the wanted one to its last bit, but any NaN is a NaN.
func wantRatio(t *testing.T, c api.Curve, size, refs int, want float64) {
	t.Helper()
	got := curve.Ratio(c, size, refs)
	if math.IsNaN(want) && math.IsNaN(got) {
		return
	}
	if math.Float64bits(got) != math.Float64bits(want) {
		t.Errorf("Ratio(%v, %d, %d) = %v, want %v", c, size, refs, got, want)
	}
}

func checkOf(t *testing.T, counts []int, times int) {
	t.Helper()
	want, wantE := ofAsSaid(counts, times)
	if wantE != api.OK {
		refusedOf(t, counts, times)
		return
	}
	wantOf(t, counts, times, want...)
}

func checkHull(t *testing.T, c api.Curve) {
	t.Helper()
	want, wantE := hullAsSaid(c)
	if wantE != api.OK {
		refusedHull(t, c)
		return
	}
	wantHull(t, c, want...)
}

// checkCorners: of a sound curve, too long for all pairs: from the first size to the last one, each corner lies above its neighbours' line, and what is no corner lies not above the line of those around it.
func checkCorners(t *testing.T, c api.Curve) []int {
	t.Helper()
	corners, e := curve.Hull(c)
	if e != api.OK || len(corners) == 0 || corners[0] != 0 || corners[len(corners)-1] != len(c)-1 {
		t.Fatalf("%d numbers: corners %v, %d", len(c), corners, e)
	}
	for i := range corners[1:] {
		a, b := corners[i], corners[i+1]
		if b <= a {
			t.Fatalf("%d numbers: %d behind %d", len(c), b, a)
		}
		if i > 0 && below(c, corners[i-1], a, b) {
			t.Errorf("%d numbers: %d is no corner", len(c), a)
		}
		for s := a + 1; s < b; s++ {
			if !below(c, a, s, b) {
				t.Errorf("%d numbers: %d lies above the line from %d to %d", len(c), s, a, b)
			}
		}
	}
	return corners
}

// checkSize: what a size brings, and what it misses of so many references.
func checkSize(t *testing.T, c api.Curve, size, refs int) {
	t.Helper()
	wantAt(t, c, size, atAsSaid(c, size))
	wantRatio(t, c, size, refs, ratioAsSaid(c, size, refs))
}

// P11.1

func TestKnownCurves(t *testing.T) {
	wantOf(t, []int{5, 0, 4, 1}, 2, 0, 10, 10, 18, 20)
	wantOf(t, []int{1, 2, 3, 4}, 1, 0, 1, 3, 6, 10)
	wantOf(t, []int{0, 0, 7}, 3, 0, 0, 0, 21)
	wantOf(t, []int{9}, 10, 0, 90)
	wantOf(t, []int{0}, 10, 0, 0)
}

func TestCurvesOfNothing(t *testing.T) {
	for _, times := range []int{0, 1, 5, 1 << 20} {
		wantOf(t, nil, times, 0)
		wantOf(t, []int{}, times, 0)
	}
	wantOf(t, []int{1, 2, 3}, 0, 0, 0, 0, 0)
}

func TestCurvesAtTheEnds(t *testing.T) {
	wantOf(t, []int{1 << 20, 0, 1 << 20}, 1<<20, 0, 1<<40, 1<<40, 1<<41)
	wantOf(t, []int{1<<20 - 1}, 1<<20-1, 0, (1<<20-1)*(1<<20-1))
	most := slices.Repeat([]int{1 << 20}, api.MaxList-1)
	var want []int
	for size := range api.MaxList {
		want = append(want, size<<40)
	}
	wantOf(t, most, 1<<20, want...)
	for _, n := range ends() {
		checkOf(t, []int{3, 4}, n)
		checkOf(t, []int{3, n, 4}, 7)
		checkOf(t, []int{n}, n)
	}
}

func TestCurvesThatAreRefused(t *testing.T) {
	for _, bad := range []int{math.MinInt, -1 << 32, -1 << 20, -1, 1<<20 + 1, 1 << 21, 1 << 32, math.MaxInt} {
		for _, counts := range [][]int{nil, {0}, {1, 2, 3}, make([]int, api.MaxList-1), make([]int, api.MaxList)} {
			refusedOf(t, counts, bad)
		}
		for _, times := range []int{0, 1, 5, 1 << 20} {
			refusedOf(t, []int{bad}, times)
			refusedOf(t, []int{bad, 0, 0}, times)
			refusedOf(t, []int{0, bad, 0}, times)
			refusedOf(t, []int{1, 2, bad}, times)
		}
		refusedOf(t, append(make([]int, api.MaxList-2), bad), 1)
	}
	for _, n := range []int{api.MaxList, api.MaxList + 1, 2 * api.MaxList} {
		refusedOf(t, make([]int, n), 0)
		refusedOf(t, make([]int, n), 1)
	}
}

func TestCurvesAreAsItIsSaid(t *testing.T) {
	for seed := range 2000 {
		counts := someCounts(seed, seed%60, 1+1<<(seed%21))
		checkOf(t, counts, someCounts(-seed, 1, 1+1<<(seed%22))[0])
	}
}

// Each count is what its size brings more than the one ahead, and a curve of counts is sound.
func TestCurvesGrowByTheirCounts(t *testing.T) {
	for seed, n := range []int{0, 1, 100, api.MaxList - 2, api.MaxList - 1} {
		counts := someCounts(seed, n, 1<<20+1)
		c, e := curve.Of(counts, 1<<20-seed)
		if e != api.OK || len(c) != n+1 || c[0] != 0 || !soundAsSaid(c) {
			t.Fatalf("%d counts: %d numbers, %d", n, len(c), e)
		}
		for i, count := range counts {
			if c[i+1]-c[i] != count*(1<<20-seed) {
				t.Errorf("%d counts: %d at %d, %d ahead", n, c[i+1], i+1, c[i])
			}
		}
		checkCorners(t, c)
	}
}

// P11.2

func TestKnownHulls(t *testing.T) {
	wantHull(t, api.Curve{0, 10, 10, 18, 20}, 0, 1, 3, 4)
	wantHull(t, api.Curve{0, 5, 8, 10, 11}, 0, 1, 2, 3, 4)
	wantHull(t, api.Curve{0, 1, 3, 6, 10}, 0, 4)
	wantHull(t, api.Curve{0, 0, 0, 21, 21, 21}, 0, 3, 5)
	wantHull(t, api.Curve{0, 0, 9, 9, 10, 10}, 0, 2, 4, 5)
	wantHull(t, api.Curve{7, 7, 8}, 0, 2)
	wantHull(t, api.Curve{7, 8, 8}, 0, 1, 2)
}

// What lies on a line is no corner.
func TestLinesHaveNoCorners(t *testing.T) {
	wantHull(t, api.Curve{0, 2, 4, 6}, 0, 3)
	wantHull(t, api.Curve{5, 5, 5, 5, 5}, 0, 4)
	wantHull(t, api.Curve{0, 3, 6, 7, 8, 9}, 0, 2, 5)
	wantHull(t, api.Curve{0, 1, 6, 7, 12, 13, 14, 15}, 0, 4, 7)
	wantHull(t, api.Curve{1 << 52, 1 << 52, 1 << 52}, 0, 2)
	line := make(api.Curve, api.MaxList)
	for i := range line {
		line[i] = i << 40
	}
	wantHull(t, line, 0, api.MaxList-1)
}

func TestHullsOfFewNumbers(t *testing.T) {
	for _, n := range []int{0, 1, 9, 1<<52 - 1, 1 << 52} {
		wantHull(t, api.Curve{n}, 0)
		wantHull(t, api.Curve{0, n}, 0, 1)
		wantHull(t, api.Curve{n, n}, 0, 1)
		wantHull(t, api.Curve{n, 1 << 52}, 0, 1)
		wantHull(t, api.Curve{n, n, n}, 0, 2)
	}
}

// A later size takes several corners away at once.
func TestCornersThatLieBelowLaterLines(t *testing.T) {
	wantHull(t, api.Curve{0, 4, 7, 9, 10, 100}, 0, 5)
	wantHull(t, api.Curve{0, 50, 54, 57, 59, 100, 101}, 0, 1, 5, 6)
	wantHull(t, api.Curve{0, 50, 54, 57, 59, 60, 60}, 0, 1, 2, 3, 4, 5, 6)
}

// Products of numbers at their ends need 64 bits.
func TestHullsAtTheEnds(t *testing.T) {
	const top = 1 << 52
	last := api.MaxList - 1
	step := func(from int, low, high int) api.Curve {
		c := slices.Repeat(api.Curve{low}, api.MaxList)
		for i := from; i < len(c); i++ {
			c[i] = high
		}
		return c
	}
	wantHull(t, step(1, 0, top), 0, 1, last)
	wantHull(t, step(last, 0, top), 0, last)
	wantHull(t, step(last-1, 0, top), 0, last-1, last)
	wantHull(t, step(api.MaxList/2, 0, top), 0, api.MaxList/2, last)
	wantHull(t, step(api.MaxList/2, top-1, top), 0, api.MaxList/2, last)
	wantHull(t, step(0, top, top), 0, last)
	near := step(last, 0, top)
	for i := range near {
		near[i] = int(new(big.Int).Div(product(top, i, 0), big.NewInt(int64(last))).Int64())
	}
	checkCorners(t, near)
	near[api.MaxList/3]++
	if corners := checkCorners(t, near); !slices.Equal(corners, []int{0, api.MaxList / 3, last}) {
		t.Errorf("corners %v", corners)
	}
}

func TestHullsOfCurvesThatAreNotSound(t *testing.T) {
	refusedHull(t, nil)
	refusedHull(t, api.Curve{})
	for _, bad := range []int{math.MinInt, -1 << 52, -2, -1, 1<<52 + 1, 1 << 53, math.MaxInt} {
		refusedHull(t, api.Curve{bad})
		refusedHull(t, api.Curve{bad, bad})
		refusedHull(t, api.Curve{0, bad})
		refusedHull(t, api.Curve{bad, 5})
		refusedHull(t, api.Curve{0, 1, bad, 1 << 52})
	}
	refusedHull(t, api.Curve{3, 2})
	refusedHull(t, api.Curve{0, 5, 4, 6})
	refusedHull(t, api.Curve{0, 1, 2, 1})
	refusedHull(t, api.Curve{1 << 52, 1<<52 - 1})
	refusedHull(t, make(api.Curve, api.MaxList+1))
	refusedHull(t, make(api.Curve, 2*api.MaxList))
	wantHull(t, make(api.Curve, api.MaxList), 0, api.MaxList-1)
}

func TestHullsAreAsItIsSaid(t *testing.T) {
	for seed := range 1500 {
		checkHull(t, someCurve(seed, 1+seed%24, 1+1<<(seed%46)))
		c := someCurve(seed, 1+seed%24, 2+seed%4)
		checkHull(t, c)
		c[seed%len(c)] += seed%3 - 1
		checkHull(t, c)
	}
}

// Gains that never grow, of which none is like another, make each size a corner; all curves that curve less have fewer.
func TestLongHulls(t *testing.T) {
	c := make(api.Curve, api.MaxList)
	for i := range c[1:] {
		c[i+1] = c[i] + api.MaxList - i
	}
	if corners := checkCorners(t, c); len(corners) != api.MaxList {
		t.Errorf("%d corners", len(corners))
	}
	for seed, most := range []int{1, 2, 3, 50, 1 << 20, 1 << 40} {
		checkCorners(t, someCurve(seed, api.MaxList, most))
		rising := someCounts(seed, api.MaxList, 1+most)
		slices.Sort(rising)
		checkCorners(t, rising)
	}
}

// P11.3

func TestKnownSizes(t *testing.T) {
	c := api.Curve{0, 10, 10, 18, 20}
	for size, want := range c {
		wantAt(t, c, size, want)
	}
	for _, size := range []int{5, 6, 99, api.MaxList, 1 << 32, math.MaxInt} {
		wantAt(t, c, size, 20)
	}
	for _, size := range []int{-1, -2, -99, -1 << 32, math.MinInt} {
		wantAt(t, api.Curve{3, 4}, size, 0)
	}
	wantAt(t, api.Curve{3, 4}, 0, 3)
}

// At and Ratio answer of curves that are not sound too.
func TestSizesOfCurvesThatAreNotSound(t *testing.T) {
	for _, size := range ends() {
		wantAt(t, nil, size, 0)
		wantAt(t, api.Curve{}, size, 0)
	}
	wantAt(t, api.Curve{-5, 9, math.MinInt}, 0, -5)
	wantAt(t, api.Curve{-5, 9, math.MinInt}, 1, 9)
	wantAt(t, api.Curve{-5, 9, math.MinInt}, 2, math.MinInt)
	wantAt(t, api.Curve{-5, 9, math.MinInt}, 3, math.MinInt)
	wantAt(t, api.Curve{math.MaxInt}, 0, math.MaxInt)
	long := make(api.Curve, 2*api.MaxList)
	long[api.MaxList+7], long[len(long)-1] = 6, 8
	wantAt(t, long, api.MaxList+7, 6)
	wantAt(t, long, 1<<40, 8)
}

func TestKnownRatios(t *testing.T) {
	c := api.Curve{0, 10, 10, 18, 20}
	wantRatio(t, c, 3, 24, 0.25)
	wantRatio(t, c, 4, 40, 0.5)
	wantRatio(t, c, 1, 30, float64(20)/30)
	wantRatio(t, c, 99, 21, float64(1)/21)
	wantRatio(t, c, 4, 1<<62, 1)
	wantRatio(t, api.Curve{1}, 0, 3, float64(2)/3)
}

func TestRatiosOfNoReferences(t *testing.T) {
	for _, refs := range []int{0, -1, -20, -1 << 53, math.MinInt} {
		for _, c := range []api.Curve{nil, {0}, {0, 10, 10}, {-3, math.MinInt}, {math.MaxInt}} {
			wantRatio(t, c, -1, refs, math.NaN())
			wantRatio(t, c, 0, refs, math.NaN())
			wantRatio(t, c, 9, refs, math.NaN())
		}
	}
}

func TestRatiosOfAllAndOfNone(t *testing.T) {
	c := api.Curve{0, 10, 20}
	for _, refs := range []int{1, 9, 10} {
		wantRatio(t, c, 1, refs, 0)
		wantRatio(t, c, 2, refs, 0)
	}
	for _, refs := range []int{1, 10, 1 << 53, math.MaxInt} {
		wantRatio(t, c, 0, refs, 1)
		wantRatio(t, c, -1, refs, 1)
		wantRatio(t, nil, 3, refs, 1)
		wantRatio(t, api.Curve{-1}, 0, refs, 1)
		wantRatio(t, api.Curve{math.MinInt}, 0, refs, 1)
		wantRatio(t, api.Curve{math.MaxInt}, 0, refs, 0)
	}
	wantRatio(t, c, 1, 11, float64(1)/11)
}

// What is missed becomes a float, and then the references do: each is rounded by itself.
func TestRatiosAreRounded(t *testing.T) {
	wantRatio(t, api.Curve{1}, 0, 1<<53+2, float64(1<<53)/float64(1<<53+2))
	wantRatio(t, api.Curve{1 << 10}, 0, 1<<62+1<<10, float64(1<<62)/float64(1<<62+1<<10))
	wantRatio(t, api.Curve{math.MaxInt - 1}, 0, math.MaxInt, math.Ldexp(1, -63))
	wantRatio(t, api.Curve{1}, 0, math.MaxInt, 1)
	r := rand.New(rand.NewSource(3))
	for range 20000 {
		checkSize(t, api.Curve{int(r.Uint64()) >> r.Intn(64)}, 0, int(r.Uint64()>>1)>>r.Intn(63))
	}
}

func TestSizesAreAsItIsSaid(t *testing.T) {
	for _, refs := range ends() {
		for _, size := range ends() {
			checkSize(t, nil, size, refs)
			checkSize(t, ends(), size, refs)
			checkSize(t, api.Curve{size}, 0, refs)
		}
	}
	for seed := range 1000 {
		c := someCurve(seed, 1+seed%40, 1+1<<(seed%46))
		for size := range len(c) + 2 {
			checkSize(t, c, size-1, c[len(c)-1]+seed%9)
			checkSize(t, c, size-1, c[len(c)/2]+1)
		}
	}
}

// R4 and R5

func TestListsAreLeft(t *testing.T) {
	room := someCurve(1, 100, 1<<20)
	before := slices.Clone(room)
	for range 2 {
		checkOf(t, room[20:26], 3)
		checkOf(t, room[20:60], -3)
		checkHull(t, room[20:40])
		checkSize(t, room[20:60], 7, 99)
		if !slices.Equal(room, before) {
			t.Error("the list, or what stands around it, was changed")
		}
	}
	falling := api.Curve{9, 5, 7}
	checkHull(t, falling)
	if !slices.Equal(falling, api.Curve{9, 5, 7}) {
		t.Error("the curve was changed")
	}
}

func TestAnswersAreNew(t *testing.T) {
	counts := []int{5, 0, 4, 1}
	c, _ := curve.Of(counts, 2)
	corners, _ := curve.Hull(c)
	for _, answer := range [][]int{c, corners} {
		answer = answer[:cap(answer)]
		for i := range answer {
			answer[i] = -7
		}
	}
	if !slices.Equal(counts, []int{5, 0, 4, 1}) {
		t.Error("an answer has the counts' memory")
	}
	wantOf(t, counts, 2, 0, 10, 10, 18, 20)
	wantHull(t, api.Curve{0, 10, 10, 18, 20}, 0, 1, 3, 4)
}

func FuzzCurvesAgree(f *testing.F) {
	f.Add(2, 3, 24, 0, []byte{5, 0, 4, 1})
	f.Add(-1, -1, 0, 1, []byte{0, 0, 255, 0, 255})
	f.Add(1<<20, math.MaxInt, math.MaxInt, 46, []byte{})
	f.Add(1<<20+1, math.MinInt, math.MinInt, 63, []byte{1, 2, 3})
	f.Fuzz(func(t *testing.T, times, size, refs, shift int, b []byte) {
		if len(b) > 40 {
			b = b[:40]
		}
		counts, sums := make([]int, len(b)), make(api.Curve, len(b))
		hits := 0
		for i, gain := range b {
			counts[i] = int(int8(gain)) << (shift & 63)
			hits += int(gain) << (shift & 63)
			sums[i] = hits
		}
		checkOf(t, counts, times)
		for _, c := range []api.Curve{counts, sums} {
			checkHull(t, c)
			checkSize(t, c, size, refs)
		}
	})
}
