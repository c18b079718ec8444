package solve_test

import (
	"math"
	"math/big"
	"math/rand"
	"slices"
	"testing"

	"stowage/api"
	"stowage/solve"
)

// top: the greatest number of a sound curve.
const top = 1 << 52

// random: the same in each run with one seed.
func random(seed int) *rand.Rand { return rand.New(rand.NewSource(int64(seed))) }

// someCurve: a sound curve of n numbers, which grows by less than most at each size, and at many sizes not at all.
func someCurve(r *rand.Rand, n, most int) api.Curve {
	c := make(api.Curve, n)
	for i := range c {
		c[i] = r.Intn(most)
		if r.Intn(3) == 0 {
			c[i] = 0
		}
		if i > 0 {
			c[i] += c[i-1]
		}
	}
	return c
}

// someCurves: of up to most numbers each.
func someCurves(r *rand.Rand, n, most, gains int) []api.Curve {
	curves := make([]api.Curve, n)
	for i := range curves {
		curves[i] = someCurve(r, 1+r.Intn(most), gains)
	}
	return curves
}

// calming: a curve whose gains never grow, made of one by their order.
func calming(c api.Curve) api.Curve {
	gains := slices.Clone(c)
	for i := len(c) - 1; i > 0; i-- {
		gains[i] -= gains[i-1]
	}
	slices.Sort(gains[1:])
	slices.Reverse(gains[1:])
	for i := range gains[1:] {
		gains[i+1] += gains[i]
	}
	return gains
}

// someLeast: n numbers that come to at most total.
func someLeast(r *rand.Rand, n, total int) []int {
	least := make([]int, n)
	for i := range least {
		least[i] = r.Intn(total + 1)
		total -= least[i]
	}
	r.Shuffle(n, func(i, j int) { least[i], least[j] = least[j], least[i] })
	return least
}

func atAsSaid(c api.Curve, size int) int {
	if size > len(c)-1 {
		size = len(c) - 1
	}
	return c[size]
}

func together(shares []int) *big.Int {
	all := new(big.Int)
	for _, n := range shares {
		all.Add(all, big.NewInt(int64(n)))
	}
	return all
}

// broughtBy: what shares bring, of any size.
func broughtBy(shares []int, curves []api.Curve) *big.Int {
	all := new(big.Int)
	for i, c := range curves {
		all.Add(all, big.NewInt(int64(atAsSaid(c, shares[i]))))
	}
	return all
}

// wrongAsSaid: the errors as the document says them, one kind behind the other.
func wrongAsSaid(total int, least []int, curves []api.Curve) api.Errno {
	if total < 0 || total > 512 || len(curves) < 1 || len(curves) > 16 || len(least) != len(curves) {
		return api.ErrArg
	}
	for _, n := range least {
		if n < 0 || n > total {
			return api.ErrArg
		}
	}
	for _, c := range curves {
		if len(c) < 1 || len(c) > 4096 || !slices.IsSorted(c) || c[0] < 0 || c[len(c)-1] > 4503599627370496 {
			return api.ErrForm
		}
	}
	if together(least).Cmp(big.NewInt(int64(total))) > 0 {
		return api.ErrSpace
	}
	return api.OK
}

// greedyAsSaid: Greedy as the document says it; the gains of all are listed anew for each slot.
func greedyAsSaid(total int, least []int, curves []api.Curve) []int {
	shares := slices.Clone(least)
	for together(shares).Cmp(big.NewInt(int64(total))) < 0 {
		var gains []int
		for i, c := range curves {
			gains = append(gains, atAsSaid(c, shares[i]+1)-atAsSaid(c, shares[i]))
		}
		shares[slices.Index(gains, slices.Max(gains))]++
	}
	return shares
}

// bestAsSaid: Best as the document says it, all shares looked at, those with the greatest first one first, and so on.
func bestAsSaid(total int, least []int, curves []api.Curve) ([]int, *big.Int) {
	var best []int
	most := big.NewInt(-1)
	shares := make([]int, len(curves))
	var look func(i, left int)
	look = func(i, left int) {
		if i == len(curves) {
			if sum := broughtBy(shares, curves); left == 0 && sum.Cmp(most) > 0 {
				best, most = slices.Clone(shares), sum
			}
			return
		}
		for n := left; n >= least[i]; n-- {
			shares[i] = n
			look(i+1, left-n)
		}
	}
	look(0, total)
	return best, most
}

// bestByFirst: as bestAsSaid, for more slots than can all be looked at: of each number of slots the best shares of the first curves, from one curve to the next.
func bestByFirst(total int, least []int, curves []api.Curve) ([]int, *big.Int) {
	best := make([][]int, total+1)
	best[0] = []int{}
	for i, c := range curves {
		next, sums := make([][]int, total+1), make([]int, total+1)
		for ahead, shares := range best {
			if shares == nil {
				continue
			}
			sum := int(broughtBy(shares, curves[:i]).Int64())
			for n := least[i]; ahead+n <= total; n++ {
				all, now := ahead+n, sum+atAsSaid(c, n)
				if next[all] == nil || now > sums[all] || now == sums[all] && slices.Compare(shares, next[all][:i]) > 0 {
					next[all], sums[all] = append(slices.Clone(shares), n), now
				}
			}
		}
		best = next
	}
	return best[total], broughtBy(best[total], curves)
}

func wantGreedy(t *testing.T, total int, least []int, curves []api.Curve, want ...int) {
	t.Helper()
	if got, e := solve.Greedy(total, least, curves...); !slices.Equal(got, want) || e != api.OK {
		t.Errorf("Greedy(%d, %v, %v) = %v, %d, want %v", total, least, curves, got, e, want)
	}
}

func wantBest(t *testing.T, total int, least []int, curves []api.Curve, most int, want ...int) {
	t.Helper()
	if got, sum, e := solve.Best(total, least, curves...); !slices.Equal(got, want) || sum != most || e != api.OK {
		t.Errorf("Best(%d, %v, %v) = %v, %d, %d, want %v, %d", total, least, curves, got, sum, e, want, most)
	}
}

func refused(t *testing.T, total int, least []int, curves []api.Curve, want api.Errno) {
	t.Helper()
	if got, e := solve.Greedy(total, least, curves...); len(got) != 0 || e != want {
		t.Errorf("Greedy(%d, %v, %d curves) = %v, %d, want %d", total, least, len(curves), got, e, want)
	}
	if got, sum, e := solve.Best(total, least, curves...); len(got) != 0 || sum != 0 || e != want {
		t.Errorf("Best(%d, %v, %d curves) = %v, %d, %d, want %d", total, least, len(curves), got, sum, e, want)
	}
}

// check: both calls are as it is said, with best to tell what Best has to answer, and their shares come to the total (P8).
func check(t *testing.T, total int, least []int, curves []api.Curve, best func(int, []int, []api.Curve) ([]int, *big.Int)) {
	t.Helper()
	if e := wrongAsSaid(total, least, curves); e != api.OK {
		refused(t, total, least, curves, e)
		return
	}
	greedy := greedyAsSaid(total, least, curves)
	wantGreedy(t, total, least, curves, greedy...)
	shares, most := best(total, least, curves)
	wantBest(t, total, least, curves, int(most.Int64()), shares...)
	for _, list := range [][]int{greedy, shares} {
		if together(list).Cmp(big.NewInt(int64(total))) != 0 || broughtBy(list, curves).Cmp(most) > 0 {
			t.Errorf("%v, of %d: more than Best brings, or not what is shared", list, total)
		}
	}
}

// P12.1

func TestKnownGreedyShares(t *testing.T) {
	c, d := api.Curve{0, 10, 15, 17}, api.Curve{0, 8, 14, 19}
	two := []api.Curve{c, d}
	wantGreedy(t, 1, []int{0, 0}, two, 1, 0)
	wantGreedy(t, 2, []int{0, 0}, two, 1, 1)
	wantGreedy(t, 3, []int{0, 0}, two, 1, 2)
	wantGreedy(t, 5, []int{0, 0}, two, 2, 3)
	wantGreedy(t, 6, []int{0, 0}, two, 3, 3)
	wantGreedy(t, 3, []int{2, 0}, two, 2, 1)
	wantGreedy(t, 3, []int{0, 3}, two, 0, 3)
	wantGreedy(t, 4, []int{0, 3}, two, 1, 3)
	wantGreedy(t, 5, []int{1}, []api.Curve{c}, 5)
}

// What comes late, Greedy does not see.
func TestGreedyLooksOneSlotAhead(t *testing.T) {
	soon, late := api.Curve{0, 1, 2, 3}, api.Curve{0, 0, 0, 100}
	wantGreedy(t, 3, []int{0, 0}, []api.Curve{soon, late}, 3, 0)
	wantGreedy(t, 3, []int{0, 0}, []api.Curve{late, soon}, 0, 3)
	wantGreedy(t, 3, []int{0, 2}, []api.Curve{soon, late}, 0, 3)
	wantGreedy(t, 6, []int{0, 0}, []api.Curve{soon, late}, 6, 0)
	wantGreedy(t, 4, []int{0, 2}, []api.Curve{soon, late}, 1, 3)
}

func TestOfEqualGainsTheFirst(t *testing.T) {
	c := api.Curve{0, 4, 8, 9}
	wantGreedy(t, 1, []int{0, 0, 0}, []api.Curve{c, c, c}, 1, 0, 0)
	wantGreedy(t, 3, []int{0, 0, 0}, []api.Curve{c, c, c}, 2, 1, 0)
	wantGreedy(t, 7, []int{0, 0, 0}, []api.Curve{c, c, c}, 3, 2, 2)
	wantGreedy(t, 4, []int{0, 0, 0}, []api.Curve{{0, 3, 6}, c, c}, 0, 2, 2)
	wantGreedy(t, 5, []int{0, 0, 0}, []api.Curve{{3}, {0}, {9, 9}}, 5, 0, 0)
	wantGreedy(t, 5, []int{0, 1, 2}, []api.Curve{{3}, {0}, {9, 9}}, 2, 1, 2)
	wantGreedy(t, 3, []int{0, 0}, []api.Curve{{0, 0, 5}, {0, 0, 5}}, 3, 0)
}

// What a curve has at the beginning, and behind its last size, is no gain.
func TestGainsAtTheEndsOfCurves(t *testing.T) {
	wantGreedy(t, 2, []int{0, 0}, []api.Curve{{100, 101}, {0, 2, 4}}, 0, 2)
	wantGreedy(t, 3, []int{0, 0}, []api.Curve{{100, 101}, {0, 2, 4}}, 1, 2)
	wantGreedy(t, 3, []int{0, 0}, []api.Curve{{100}, {0, 2, 4}}, 1, 2)
	wantGreedy(t, 9, []int{0, 4}, []api.Curve{{7, 8}, {0, 2, 4}}, 5, 4)
	wantGreedy(t, 512, []int{0, 0}, []api.Curve{{0}, {0, 1}}, 511, 1)
	wantGreedy(t, 2, []int{0, 0}, []api.Curve{{0, top - 1}, {0, top}}, 1, 1)
	wantGreedy(t, 1, []int{0, 0}, []api.Curve{{0, top - 1}, {0, top}}, 0, 1)
}

func TestLeastIsTheBeginning(t *testing.T) {
	c, d := api.Curve{0, 1, 1, 1, 9}, api.Curve{0, 5, 7, 8, 8}
	wantGreedy(t, 4, []int{3, 1}, []api.Curve{c, d}, 3, 1)
	wantGreedy(t, 5, []int{3, 1}, []api.Curve{c, d}, 4, 1)
	wantGreedy(t, 4, []int{4, 0}, []api.Curve{c, d}, 4, 0)
	wantGreedy(t, 0, []int{0, 0}, []api.Curve{c, d}, 0, 0)
	wantBest(t, 4, []int{3, 1}, []api.Curve{c, d}, 6, 3, 1)
	wantBest(t, 5, []int{3, 1}, []api.Curve{c, d}, 14, 4, 1)
	wantBest(t, 4, []int{4, 0}, []api.Curve{c, d}, 9, 4, 0)
	wantBest(t, 4, []int{0, 2}, []api.Curve{c, d}, 9, 1, 3)
	wantBest(t, 0, []int{0, 0}, []api.Curve{c, d}, 0, 0, 0)
	wantBest(t, 0, []int{0, 0}, []api.Curve{{7}, {3, 99}}, 10, 0, 0)
}

func TestTotalsAtTheirEnds(t *testing.T) {
	c := []api.Curve{{0, 1}, {0, 1}}
	wantGreedy(t, 512, []int{256, 256}, c, 256, 256)
	wantGreedy(t, 512, []int{512, 0}, c, 512, 0)
	wantBest(t, 512, []int{0, 512}, c, 1, 0, 512)
	wantBest(t, 512, []int{0, 0}, c, 2, 511, 1)
	for _, total := range []int{math.MinInt, -1 << 32, -2, -1, 513, 514, 1 << 32, math.MaxInt} {
		refused(t, total, []int{0, 0}, c, api.ErrArg)
		refused(t, total, []int{1, 1}, c, api.ErrArg)
		refused(t, total, []int{total, 0}, c, api.ErrArg)
	}
}

func TestCurvesByAnyNumber(t *testing.T) {
	c := api.Curve{0, 2, 3}
	for n := range 40 {
		curves, least := slices.Repeat([]api.Curve{c}, n), make([]int, n)
		if n == 0 || n > 16 {
			refused(t, 9, least, curves, api.ErrArg)
			continue
		}
		want := slices.Repeat([]int{1}, n)
		wantGreedy(t, n, least, curves, want...)
		wantBest(t, n, least, curves, 2*n, want...)
		wantGreedy(t, n, want, curves, want...)
	}
	refused(t, 0, nil, nil, api.ErrArg)
	refused(t, 0, []int{}, []api.Curve{}, api.ErrArg)
	refused(t, 5, []int{5}, nil, api.ErrArg)
}

func TestAsManyInLeast(t *testing.T) {
	c := api.Curve{0, 2, 3}
	for n := range 18 {
		for m := range 18 {
			if n != m {
				refused(t, 20, make([]int, n), slices.Repeat([]api.Curve{c}, m), api.ErrArg)
			}
		}
	}
	refused(t, 20, nil, []api.Curve{c}, api.ErrArg)
}

func TestNumbersOfLeastAtTheirEnds(t *testing.T) {
	curves := []api.Curve{{0, 1}, {0, 2}, {0, 3}}
	for _, n := range []int{math.MinInt, -1 << 32, -1, 8, 9, 512, 513, 1 << 32, math.MaxInt} {
		refused(t, 7, []int{n, 0, 0}, curves, api.ErrArg)
		refused(t, 7, []int{0, n, 0}, curves, api.ErrArg)
		refused(t, 7, []int{0, 0, n}, curves, api.ErrArg)
		refused(t, 7, []int{7, 7, n}, curves, api.ErrArg)
	}
	refused(t, 7, []int{8, -1, 0}, curves, api.ErrArg)
	refused(t, 7, []int{math.MaxInt, math.MaxInt, 2}, curves, api.ErrArg)
	wantGreedy(t, 7, []int{0, 7, 0}, curves, 0, 7, 0)
	refused(t, 7, []int{7, 0, 1}, curves, api.ErrSpace)
	refused(t, 7, []int{3, 2, 3}, curves, api.ErrSpace)
	refused(t, 7, []int{7, 7, 7}, curves, api.ErrSpace)
	refused(t, 0, []int{0, 1, 0}, curves, api.ErrArg)
	refused(t, 512, slices.Repeat([]int{512}, 16), slices.Repeat(curves[:1], 16), api.ErrSpace)
	refused(t, 512, slices.Repeat([]int{33}, 16), slices.Repeat(curves[:1], 16), api.ErrSpace)
	refused(t, 511, slices.Repeat([]int{32}, 16), slices.Repeat(curves[:1], 16), api.ErrSpace)
	wantGreedy(t, 512, slices.Repeat([]int{32}, 16), slices.Repeat(curves[:1], 16), slices.Repeat([]int{32}, 16)...)
}

// badCurves: curves that are not sound, of all kinds; of a long one, what lies far behind all sizes that can be shared counts too.
func badCurves() []api.Curve {
	long := slices.Repeat(api.Curve{5}, api.MaxList)
	long[api.MaxList-1] = 4
	bad := []api.Curve{nil, {}, {2, 1}, {0, 5, 4, 6}, {-1}, {-1, 0}, {0, top + 1}, {math.MinInt}, {math.MaxInt}, long}
	return append(bad, slices.Repeat(api.Curve{5}, api.MaxList+1))
}

func TestCurvesThatAreNotSound(t *testing.T) {
	good := api.Curve{0, 3, top}
	for _, bad := range badCurves() {
		refused(t, 4, []int{0}, []api.Curve{bad}, api.ErrForm)
		refused(t, 0, []int{0}, []api.Curve{bad}, api.ErrForm)
		refused(t, 4, []int{4}, []api.Curve{bad}, api.ErrForm)
		refused(t, 4, []int{0, 0, 0}, []api.Curve{bad, good, good}, api.ErrForm)
		refused(t, 4, []int{0, 0, 0}, []api.Curve{good, bad, good}, api.ErrForm)
		refused(t, 4, []int{0, 0, 0}, []api.Curve{good, good, bad}, api.ErrForm)
	}
	long := slices.Repeat(api.Curve{5}, api.MaxList)
	wantGreedy(t, 4, []int{0, 0}, []api.Curve{long, good}, 2, 2)
	wantBest(t, 4, []int{0, 0}, []api.Curve{long, good}, 5+top, 2, 2)
}

// R2: ErrArg goes ahead of ErrForm, and that ahead of ErrSpace.
func TestWhichErrorGoesAhead(t *testing.T) {
	good := api.Curve{0, 3}
	for _, bad := range badCurves() {
		refused(t, 513, []int{0}, []api.Curve{bad}, api.ErrArg)
		refused(t, -1, []int{0}, []api.Curve{bad}, api.ErrArg)
		refused(t, 4, []int{0, 0}, []api.Curve{bad}, api.ErrArg)
		refused(t, 4, []int{5, 0}, []api.Curve{bad, bad}, api.ErrArg)
		refused(t, 4, []int{0, -1}, []api.Curve{bad, good}, api.ErrArg)
		refused(t, 4, make([]int, 17), slices.Repeat([]api.Curve{bad}, 17), api.ErrArg)
		refused(t, 4, []int{4, 4}, []api.Curve{good, bad}, api.ErrForm)
		refused(t, 4, []int{4, 1}, []api.Curve{bad, good}, api.ErrForm)
	}
	refused(t, 4, []int{4, 4, -1}, []api.Curve{good, good, good}, api.ErrArg)
	refused(t, 4, []int{4, 4}, []api.Curve{good, good}, api.ErrSpace)
}

// P12.2

func TestKnownBestShares(t *testing.T) {
	soon, late := api.Curve{0, 1, 2, 3}, api.Curve{0, 0, 0, 100}
	two := []api.Curve{soon, late}
	wantBest(t, 2, []int{0, 0}, two, 2, 2, 0)
	wantBest(t, 3, []int{0, 0}, two, 100, 0, 3)
	wantBest(t, 4, []int{0, 0}, two, 101, 1, 3)
	wantBest(t, 3, []int{1, 0}, two, 3, 3, 0)
	wantBest(t, 4, []int{1, 0}, two, 101, 1, 3)
	wantBest(t, 3, []int{0, 0}, []api.Curve{late, soon}, 100, 3, 0)
	wantBest(t, 6, []int{0, 0}, []api.Curve{late, late}, 200, 3, 3)
	wantBest(t, 5, []int{0, 0}, []api.Curve{late, late}, 100, 5, 0)
	wantBest(t, 5, []int{0, 0}, []api.Curve{late, {0, 7}}, 107, 4, 1)
	wantBest(t, 5, []int{1}, []api.Curve{soon}, 3, 5)
	wantBest(t, 5, []int{2, 0, 0}, []api.Curve{{9, 9}, {0, 6, 6, 9}, {0, 0, 8}}, 23, 2, 1, 2)
}

// All of the total is shared, where nothing more is brought too; and the first have as much as goes.
func TestOfEqualSumsTheFirstHasMost(t *testing.T) {
	flat := api.Curve{4}
	wantBest(t, 9, []int{0, 0, 0}, []api.Curve{flat, flat, flat}, 12, 9, 0, 0)
	wantBest(t, 9, []int{1, 2, 3}, []api.Curve{flat, flat, flat}, 12, 4, 2, 3)
	wantBest(t, 9, []int{0, 0, 0}, []api.Curve{flat, flat, {0, 0, 5}}, 13, 7, 0, 2)
	wantBest(t, 9, []int{0, 0, 0}, []api.Curve{flat, {0, 0, 5}, flat}, 13, 7, 2, 0)
	line := api.Curve{0, 1, 2, 3, 4, 5}
	wantBest(t, 4, []int{0, 0, 0}, []api.Curve{line, line, line}, 4, 4, 0, 0)
	wantBest(t, 7, []int{0, 0, 0}, []api.Curve{line, line, line}, 7, 5, 2, 0)
	wantBest(t, 7, []int{0, 0, 1}, []api.Curve{line, line, line}, 7, 5, 1, 1)
	pairs := api.Curve{0, 0, 2, 2, 4}
	wantBest(t, 4, []int{0, 0, 0}, []api.Curve{pairs, pairs, pairs}, 4, 4, 0, 0)
	wantBest(t, 5, []int{0, 1, 0}, []api.Curve{pairs, pairs, line}, 5, 2, 2, 1)
	wantBest(t, 5, []int{0, 1, 0}, []api.Curve{pairs, pairs, pairs}, 4, 4, 1, 0)
	wantBest(t, 3, []int{0, 0, 0}, []api.Curve{{0}, {0, 1, 1}, {0, 1, 1}}, 2, 1, 1, 1)
	wantBest(t, 2, []int{0, 0, 0}, []api.Curve{{0, 0, 5}, {0, 5}, {0, 0}}, 5, 2, 0, 0)
}

// Sums of numbers at their ends need more bits than a float has.
func TestSumsAtTheirEnds(t *testing.T) {
	curves := slices.Repeat([]api.Curve{{top}}, 16)
	least := make([]int, 16)
	wantBest(t, 0, least, curves, 16*top, least...)
	curves[15] = api.Curve{top - 3, top - 2, top - 1}
	want := slices.Clone(least)
	want[0], want[15] = 510, 2
	wantBest(t, 512, least, curves, 16*top-1, want...)
	wantGreedy(t, 512, least, curves, want...)
	wantBest(t, 2, []int{0, 0, 0}, []api.Curve{{0, 0, top}, {0, top/2 + 1}, {0, top / 2}}, top+1, 0, 1, 1)
	wantBest(t, 2, []int{0, 0, 0}, []api.Curve{{0, 0, top}, {0, top / 2}, {0, top / 2}}, top, 2, 0, 0)
	wantBest(t, 2, []int{0, 0, 0}, []api.Curve{{0, 0, top}, {0, top/2 - 1}, {0, top / 2}}, top, 2, 0, 0)
}

func TestSharesAreAsItIsSaid(t *testing.T) {
	for seed := range 3000 {
		r := random(seed)
		n, total := 1+r.Intn(5), r.Intn(11)
		curves := someCurves(r, n, 9, 1+1<<r.Intn(1+seed%40))
		check(t, total, someLeast(r, n, total), curves, bestAsSaid)
		check(t, total, make([]int, n), curves, bestAsSaid)
	}
}

// Both ways of a test to find the best shares agree, so that the one may stand for the other where there are many.
func TestBestOfManyIsAsItIsSaid(t *testing.T) {
	for seed := range 300 {
		r := random(seed)
		n, total := 1+r.Intn(4), r.Intn(12)
		check(t, total, someLeast(r, n, total), someCurves(r, n, 9, 1+seed%5), bestByFirst)
	}
	for seed, gains := range []int{1, 2, 3, 1 << 10, 1 << 39} {
		r := random(seed)
		for _, n := range []int{2, 3, 16} {
			curves := someCurves(r, n, 600, gains)
			check(t, 512>>seed, someLeast(r, n, 512>>seed), curves, bestByFirst)
			check(t, 120-seed, make([]int, n), someCurves(r, n, 40, gains), bestByFirst)
		}
	}
}

func TestManySlotsAndCurves(t *testing.T) {
	r := random(7)
	for _, gains := range []int{2, 5, 1 << 40} {
		curves := make([]api.Curve, 16)
		for i := range curves {
			curves[i] = someCurve(r, api.MaxList, gains)
		}
		check(t, 512, make([]int, 16), curves, bestByFirst)
		check(t, 512, someLeast(r, 16, 100), curves, bestByFirst)
	}
}

// What follows: where no gain ever grows, Greedy's sum is Best's.
func TestGreedyIsBestWhereNoGainGrows(t *testing.T) {
	for seed := range 400 {
		r := random(seed)
		n, total := 1+r.Intn(16), r.Intn(65)
		curves := someCurves(r, n, 20, 1+1<<r.Intn(40))
		for i, c := range curves {
			curves[i] = calming(c)
		}
		least := someLeast(r, n, total)
		shares, e := solve.Greedy(total, least, curves...)
		_, most, f := solve.Best(total, least, curves...)
		if e != api.OK || f != api.OK || broughtBy(shares, curves).Cmp(big.NewInt(int64(most))) != 0 {
			t.Errorf("%d slots, least %v, of %v: %v, %d, and at best %d, %d", total, least, curves, shares, e, most, f)
		}
	}
}

func TestArgumentsOfAnyKind(t *testing.T) {
	curves := append(badCurves(), api.Curve{0, 3, 4}, api.Curve{top}, api.Curve{0, 1, 9})
	numbers := []int{math.MinInt, -1, 0, 1, 2, 5, 8, 512, 513, math.MaxInt}
	pick := func(r *rand.Rand, n int) int { return max(0, r.Intn(2*n)-n) }
	for seed := range 5000 {
		r := random(seed)
		n := r.Intn(5)
		least, some := make([]int, n), make([]api.Curve, n)
		for i := range least {
			least[i], some[i] = r.Intn(4), curves[len(curves)-1-pick(r, len(curves))]
		}
		if n > 0 && seed%3 == 0 {
			least[r.Intn(n)] = numbers[r.Intn(len(numbers))]
		}
		total := r.Intn(12)
		if seed%5 == 0 {
			total = numbers[r.Intn(len(numbers))]
		}
		check(t, total, least, some, bestByFirst)
	}
}

// R4 and R5

func TestArgumentsAreLeft(t *testing.T) {
	r := random(1)
	room := make([]api.Curve, 20)
	for i := range room {
		room[i] = someCurve(r, 30, 9)
	}
	least := someCounts(r, 20, 5)
	leastBefore, before := slices.Clone(least), cloneAll(room)
	for range 2 {
		for _, total := range []int{-1, 9, 60} {
			check(t, total, least[5:9], cut(room)[5:9], bestByFirst)
		}
		if !slices.Equal(least, leastBefore) || !slices.EqualFunc(room, before, slices.Equal) {
			t.Error("the arguments, or what stands around them, were changed")
		}
	}
}

func someCounts(r *rand.Rand, n, most int) []int {
	counts := make([]int, n)
	for i := range counts {
		counts[i] = r.Intn(most)
	}
	return counts
}

func cloneAll(curves []api.Curve) []api.Curve {
	out := make([]api.Curve, len(curves))
	for i, c := range curves {
		out[i] = slices.Clone(c)
	}
	return out
}

// cut: the curves' first halves, the others standing in their spare room.
func cut(curves []api.Curve) []api.Curve {
	out := make([]api.Curve, len(curves))
	for i, c := range curves {
		out[i] = c[:len(c)/2]
	}
	return out
}

func TestAnswersAreNew(t *testing.T) {
	least, curves := append(make([]int, 0, 9), 1, 0), []api.Curve{{0, 5, 6}, {0, 4, 8}}
	for _, total := range []int{1, 3} {
		greedy, _ := solve.Greedy(total, least, curves...)
		best, _, _ := solve.Best(total, least, curves...)
		for _, answer := range [][]int{greedy, best} {
			answer = answer[:cap(answer)]
			for i := range answer {
				answer[i] = -7
			}
		}
	}
	if !slices.Equal(least[:9], []int{1, 0, 0, 0, 0, 0, 0, 0, 0}) {
		t.Error("an answer has the memory of least")
	}
	wantGreedy(t, 3, least, curves, 1, 2)
	wantBest(t, 3, least, curves, 13, 1, 2)
}

func FuzzSharesAgree(f *testing.F) {
	f.Add(3, 0, []byte{0, 0}, []byte{0, 5, 1, 255, 0, 4, 4})
	f.Add(6, 40, []byte{0, 2, 0}, []byte{0, 0, 0, 100, 255, 255, 7, 1, 1, 1})
	f.Add(4, 3, []byte{4, 4}, []byte{1, 255, 0, 200})
	f.Add(513, 0, []byte{0}, []byte{})
	f.Add(-1, 63, []byte{255}, []byte{9, 9})
	f.Fuzz(func(t *testing.T, total, shift int, small, b []byte) {
		if len(b) > 2000 {
			b = b[:2000]
		}
		least := make([]int, len(small))
		for i, n := range small {
			least[i] = int(int8(n))
		}
		// 255 ends a curve; all others are gains.
		curves := []api.Curve{nil}
		hits := 0
		for _, gain := range b {
			if gain == 255 {
				curves, hits = append(curves, nil), 0
				continue
			}
			hits += int(gain) << (shift & 63)
			curves[len(curves)-1] = append(curves[len(curves)-1], hits)
		}
		check(t, total, least, curves, bestByFirst)
		if total <= 9 && len(curves) <= 4 {
			check(t, total, least, curves, bestAsSaid)
		}
	})
}
