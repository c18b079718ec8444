package weigh_test

import (
	"encoding/binary"
	"math"
	"math/big"
	"math/rand"
	"slices"
	"testing"

	"stowage/api"
	"stowage/weigh"
)

var (
	nan      = math.NaN()
	inf      = math.Inf(1)
	minusInf = math.Inf(-1)
	minus0   = math.Copysign(0, -1)
)

// least and most: the ends of what weighs something, but for infinity.
const (
	least = math.SmallestNonzeroFloat64
	most  = math.MaxFloat64
)

// nothing: weights that weigh nothing, of all kinds.
func nothing() []float64 {
	return []float64{
		nan, math.Copysign(nan, -1), math.Float64frombits(0x7FF0000000000001), math.Float64frombits(0xFFFFFFFFFFFFFFFF),
		minusInf, -most, -1, -least, 0, minus0,
	}
}

// weights: n of any kind and size, the same in each run with one seed.
func weights(seed, n int) []float64 {
	r := rand.New(rand.NewSource(int64(seed)))
	out := make([]float64, n)
	for i := range out {
		switch r.Intn(6) {
		case 0:
			out[i] = nothing()[r.Intn(len(nothing()))]
		case 1:
			out[i] = math.Float64frombits(r.Uint64() &^ (1 << 62)) // below 2
		case 2:
			out[i] = float64(r.Intn(5))
		default:
			out[i] = math.Ldexp(r.Float64(), seed%2000-1040+r.Intn(40))
		}
	}
	return out
}

// unitsAsSaid: Units as the document says it, with exact numbers.
func unitsAsSaid(weights []float64) []int {
	out := make([]int, len(weights))
	if slices.ContainsFunc(weights, func(w float64) bool { return w > most }) {
		for i, w := range weights {
			if w > most {
				out[i] = 1
			}
		}
		return out
	}
	greatest := new(big.Rat)
	for _, w := range weights {
		if w > 0 && exact(w).Cmp(greatest) > 0 {
			greatest = exact(w)
		}
	}
	if greatest.Sign() == 0 {
		return out
	}
	e := -1100
	for powerOf2(e+1).Cmp(greatest) <= 0 {
		e++
	}
	for i, w := range weights {
		if w > 0 {
			q := new(big.Rat).Quo(exact(w), powerOf2(e-31))
			out[i] = int(new(big.Int).Quo(q.Num(), q.Denom()).Int64())
		}
	}
	return out
}

func exact(w float64) *big.Rat { return new(big.Rat).SetFloat64(w) }

func powerOf2(e int) *big.Rat {
	p := new(big.Rat).SetInt(new(big.Int).Lsh(big.NewInt(1), uint(max(e, -e))))
	if e < 0 {
		p.Inv(p)
	}
	return p
}

// shareAsSaid: Share as the document says it, what is left given one by one.
func shareAsSaid(total int, weights []float64) ([]int, api.Errno) {
	if total < 0 || total > 1048576 || len(weights) == 0 || len(weights) > 4096 {
		return nil, api.ErrArg
	}
	units := unitsAsSaid(weights)
	all := int64(0)
	for _, u := range units {
		all += int64(u)
	}
	if all == 0 {
		return nil, api.ErrNone
	}
	shares, rests, left := make([]int, len(units)), make([]int64, len(units)), total
	for i, u := range units {
		q, r := new(big.Int).QuoRem(new(big.Int).Mul(big.NewInt(int64(total)), big.NewInt(int64(u))), big.NewInt(all), new(big.Int))
		shares[i], rests[i] = int(q.Int64()), r.Int64()
		left -= shares[i]
	}
	for ; left > 0; left-- {
		best := 0
		for i, r := range rests {
			if r > rests[best] {
				best = i
			}
		}
		shares[best]++
		rests[best] = -1
	}
	return shares, api.OK
}

func wantUnits(t *testing.T, weights []float64, want ...int) {
	t.Helper()
	if got := weigh.Units(weights); !slices.Equal(got, want) {
		t.Errorf("Units(%v) = %v, want %v", weights, got, want)
	}
}

func wantShares(t *testing.T, total int, weights []float64, want ...int) {
	t.Helper()
	if got, e := weigh.Share(total, weights...); !slices.Equal(got, want) || e != api.OK {
		t.Errorf("Share(%d, %v) = %v, %d, want %v", total, weights, got, e, want)
	}
}

func refused(t *testing.T, total int, weights []float64, want api.Errno) {
	t.Helper()
	if got, e := weigh.Share(total, weights...); len(got) != 0 || e != want {
		t.Errorf("Share(%d, %d weights) = %v, %d, want %d", total, len(weights), got, e, want)
	}
}

// P8.1

func TestUnitsOfKnownWeights(t *testing.T) {
	wantUnits(t, []float64{1, 2, nan, 0.75}, 1<<30, 1<<31, 0, 3<<28)
	wantUnits(t, []float64{1, 1, 1}, 1<<31, 1<<31, 1<<31)
	wantUnits(t, []float64{3, 1, minusInf, 1}, 3<<30, 1<<30, 0, 1<<30)
	wantUnits(t, []float64{10, 9, 8, 7, 1}, 10<<28, 9<<28, 8<<28, 7<<28, 1<<28)
	wantUnits(t, []float64{-3, 0.1}, 0, 3435973836)
	wantUnits(t, []float64{1.0 / 3, 2.0 / 3}, 1431655765, 2863311530)
}

func TestUnitsOfNothing(t *testing.T) {
	if got := weigh.Units(nil); len(got) != 0 {
		t.Errorf("Units of nil: %v", got)
	}
	if got := weigh.Units([]float64{}); len(got) != 0 {
		t.Errorf("Units of no weights: %v", got)
	}
	wantUnits(t, nothing(), make([]int, len(nothing()))...)
	for _, w := range nothing() {
		wantUnits(t, []float64{w}, 0)
		wantUnits(t, []float64{w, 4, w}, 0, 1<<31, 0)
		wantUnits(t, []float64{4, w, least}, 1<<31, 0, 0)
		wantUnits(t, []float64{w, inf, w}, 0, 1, 0)
	}
}

func TestUnitsBesideInfinity(t *testing.T) {
	wantUnits(t, []float64{inf}, 1)
	wantUnits(t, []float64{nan, inf, 5, inf}, 0, 1, 0, 1)
	wantUnits(t, []float64{most, 1, inf, least, minusInf, 0, minus0}, 0, 0, 1, 0, 0, 0, 0)
	wantUnits(t, []float64{inf, inf, inf}, 1, 1, 1)
}

// The greatest weight's unit has 32 bits, whatever the weight.
func TestUnitsOfThePowersOf2(t *testing.T) {
	for e := -1074; e <= 1023; e++ {
		power := math.Ldexp(1, e)
		wantUnits(t, []float64{power}, 1<<31)
		wantUnits(t, []float64{0, power, power}, 0, 1<<31, 1<<31)
		below := math.Nextafter(power, 0)
		wantUnits(t, []float64{below, power}, unitsAsSaid([]float64{below, power})...)
		wantUnits(t, []float64{below}, unitsAsSaid([]float64{below})...)
		if above := math.Nextafter(power, inf); above < inf {
			wantUnits(t, []float64{power, above}, unitsAsSaid([]float64{power, above})...)
		}
	}
}

// The fraction goes, however near it comes to the next whole number.
func TestUnitsAreWithoutTheirFraction(t *testing.T) {
	nearly := math.Nextafter(1, 0)
	wantUnits(t, []float64{nearly}, 1<<32-1)
	wantUnits(t, []float64{nearly, 1}, 1<<31-1, 1<<31)
	wantUnits(t, []float64{1, math.Nextafter(1, 2)}, 1<<31, 1<<31)
	wantUnits(t, []float64{most}, 1<<32-1)
	for shift := range 70 {
		small := math.Ldexp(1, -shift)
		wantUnits(t, []float64{1, small, math.Nextafter(small, 0)}, 1<<31, 1<<31>>shift, max(1<<31>>shift-1, 0))
	}
	wantUnits(t, []float64{1 << 31, 1, 1.5, 0.5, 1.9999999999999998}, 1<<31, 1, 1, 0, 1)
	wantUnits(t, []float64{1<<32 - 1, 1, 0.9999999999999999, 1.25}, 1<<32-1, 1, 0, 1)
}

func TestUnitsOfTheSmallestWeights(t *testing.T) {
	wantUnits(t, []float64{least}, 1<<31)
	wantUnits(t, []float64{least, 3 * least}, 1<<30, 3<<30)
	wantUnits(t, []float64{least, 1}, 0, 1<<31)
	wantUnits(t, []float64{least, most, 1}, 0, 1<<32-1, 0)
	smallestNormal := math.Ldexp(1, -1022)
	wantUnits(t, []float64{smallestNormal, least, math.Ldexp(1, -1053)}, 1<<31, 0, 1)
	wantUnits(t, []float64{math.Nextafter(smallestNormal, 0), least}, 1<<32-1, 0)
	for bit := range 52 {
		greatest, other := math.Float64frombits(1<<bit|1<<bit>>1), math.Float64frombits(1<<bit>>1|1)
		wantUnits(t, []float64{greatest, other, least}, unitsAsSaid([]float64{greatest, other, least})...)
	}
}

func TestUnitsAreAsItIsSaid(t *testing.T) {
	for seed := range 3000 {
		list := weights(seed, 1+seed%9)
		wantUnits(t, list, unitsAsSaid(list)...)
	}
}

// Weights that all are as many times as great, by a power of two, have the same units.
func TestUnitsDoNotHangOnTheScale(t *testing.T) {
	list := []float64{3, 0.1, 7.25, 1e-9, 1e-30, nan, 7.999999}
	want := unitsAsSaid(list)
	for shift := -900; shift <= 1000; shift++ {
		scaled := make([]float64, len(list))
		for i, w := range list {
			scaled[i] = math.Ldexp(w, shift)
		}
		wantUnits(t, scaled, want...)
	}
}

func TestUnitsOfMoreThanMaxList(t *testing.T) {
	list := make([]float64, api.MaxList+100)
	for i := range list {
		list[i] = float64(i)
	}
	wantUnits(t, list, unitsAsSaid(list)...)
}

// P8.2

func TestKnownShares(t *testing.T) {
	wantShares(t, 10, []float64{1, 1, 1}, 4, 3, 3)
	wantShares(t, 7, []float64{nan, inf, 5, inf}, 0, 4, 0, 3)
	wantShares(t, 10, []float64{3, 1, minusInf, 1}, 6, 2, 0, 2)
	wantShares(t, 3, []float64{least, 3 * least}, 1, 2)
	wantShares(t, 100, []float64{most, 1}, 100, 0)
	wantShares(t, 64, []float64{1, 2, 3, 4}, 6, 13, 19, 26)
	wantShares(t, 1, []float64{1, 1, 1}, 1, 0, 0)
	wantShares(t, 2, []float64{1, 2, 2}, 0, 1, 1)
	wantShares(t, 2, []float64{1, 1, 1}, 1, 1, 0)
	wantShares(t, 5, []float64{0.001}, 5)
}

func TestTotalsAtTheirEnds(t *testing.T) {
	wantShares(t, 0, []float64{2}, 0)
	wantShares(t, 0, []float64{2, nan, inf}, 0, 0, 0)
	wantShares(t, api.MaxTotal, []float64{1, 3}, 1<<18, 3<<18)
	wantShares(t, api.MaxTotal, []float64{1, 1, 1}, 349526, 349525, 349525)
	wantShares(t, api.MaxTotal-1, []float64{inf, inf}, 1<<19, 1<<19-1)
	for _, total := range []int{-1, -2, math.MinInt, api.MaxTotal + 1, 1 << 32, math.MaxInt} {
		refused(t, total, []float64{1, 2}, api.ErrArg)
		refused(t, total, []float64{0}, api.ErrArg)
		refused(t, total, nil, api.ErrArg)
	}
}

func TestListsAtTheirEnds(t *testing.T) {
	refused(t, 7, nil, api.ErrArg)
	refused(t, 7, []float64{}, api.ErrArg)
	refused(t, 0, nil, api.ErrArg)
	list := make([]float64, api.MaxList+1)
	refused(t, 7, list, api.ErrArg)
	refused(t, 7, list[1:], api.ErrNone)
	want := make([]int, api.MaxList+1)
	for i := range list {
		list[i], want[i] = most, api.MaxTotal/api.MaxList
	}
	refused(t, api.MaxTotal, list, api.ErrArg)
	wantShares(t, api.MaxTotal, list[1:], want[1:]...)
	want[0]--
	wantShares(t, api.MaxTotal-1, list[1:], append(slices.Clone(want[1:api.MaxList]), want[0])...)
}

func TestWhereNothingWeighsAnything(t *testing.T) {
	refused(t, 7, []float64{minus0, nan}, api.ErrNone)
	refused(t, 7, nothing(), api.ErrNone)
	refused(t, 0, nothing(), api.ErrNone)
	refused(t, api.MaxTotal, nothing(), api.ErrNone)
	for _, w := range nothing() {
		refused(t, 7, []float64{w}, api.ErrNone)
		refused(t, 7, []float64{w, w, w}, api.ErrNone)
		wantShares(t, 7, []float64{w, least, w, least}, 0, 4, 0, 3)
		wantShares(t, 7, []float64{w, inf, w}, 0, 7, 0)
	}
}

// Of a weight whose unit is 0 nothing rests: it gets nothing of what is left.
func TestWhatIsTooLightGetsNothing(t *testing.T) {
	wantShares(t, 8, []float64{least, 1, 1e-10, 1, 1}, 0, 3, 0, 3, 2)
	wantShares(t, 8, []float64{most, inf, inf, most, inf}, 0, 3, 3, 0, 2)
}

// 1 in 2^31 is little, but it is the greatest rest.
func TestTheGreatestRestsGoAhead(t *testing.T) {
	wantShares(t, 3, []float64{1, 1 + 1.0/(1<<20)}, 1, 2)
	wantShares(t, 3, []float64{1 + 1.0/(1<<20), 1}, 2, 1)
	wantShares(t, 10, []float64{5, 15, 30}, 1, 3, 6)
	wantShares(t, 10, []float64{1, 2, 4}, 1, 3, 6)
	wantShares(t, 10, []float64{4, 2, 1}, 6, 3, 1)
	wantShares(t, 1, []float64{1, 3, 2}, 0, 1, 0)
	wantShares(t, 2, []float64{1, 3, 2}, 0, 1, 1)
}

func TestOfEqualRestsTheFirst(t *testing.T) {
	for n := 1; n <= 300; n++ {
		list := slices.Repeat([]float64{1.5}, n)
		for _, total := range []int{0, 1, n / 2, n - 1, n, n + 1, 2*n - 1, 10 * n / 3} {
			want := make([]int, n)
			for i := range want {
				want[i] = total / n
				if i < total%n {
					want[i]++
				}
			}
			wantShares(t, total, list, want...)
		}
	}
	wantShares(t, 5, []float64{2, 1, 1, 2}, 2, 1, 1, 1)
	wantShares(t, 3, []float64{1, 2, 2, 1}, 1, 1, 1, 0)
}

func TestSharesAreAsItIsSaid(t *testing.T) {
	for seed := range 3000 {
		list := weights(seed, 1+seed%13)
		total := rand.New(rand.NewSource(int64(seed))).Intn(api.MaxTotal+1) >> (seed % 21)
		checkShares(t, total, list)
	}
	for seed := range 5 {
		list := weights(seed+1000, api.MaxList-seed)
		checkShares(t, api.MaxTotal-seed, list)
		checkShares(t, 1000+seed, list)
	}
}

// checkShares: the shares are as it is said, and come to the total (P8).
func checkShares(t *testing.T, total int, list []float64) {
	t.Helper()
	want, wantE := shareAsSaid(total, list)
	got, e := weigh.Share(total, list...)
	if !slices.Equal(got, want) || e != wantE {
		t.Errorf("Share(%d, %v) = %v, %d, want %v, %d", total, list, got, e, want, wantE)
	}
	all := 0
	for i, n := range got {
		all += n
		if n < 0 || n > 0 && !(list[i] > 0) {
			t.Errorf("Share(%d, %v): %d for weight %d", total, list, n, i)
		}
	}
	if e == api.OK && all != total {
		t.Errorf("Share(%d, %v) comes to %d", total, list, all)
	}
}

// R4 and R5

func TestWeightsAreLeft(t *testing.T) {
	room := append(append(weights(1, 5), weights(2, 20)...), weights(3, 50)...)
	before := bitsOf(room)
	weigh.Units(room[5:25])
	weigh.Share(17, room[5:25]...)
	weigh.Share(-1, room[5:25]...)
	if !slices.Equal(bitsOf(room), before) {
		t.Error("the weights, or what stands around them, were changed")
	}
}

func bitsOf(list []float64) []uint64 {
	out := make([]uint64, len(list))
	for i, w := range list {
		out[i] = math.Float64bits(w)
	}
	return out
}

func TestAnswersAreNew(t *testing.T) {
	list := []float64{1, 1, 1}
	units := weigh.Units(list)
	shares, _ := weigh.Share(10, list...)
	for _, answer := range [][]int{units, shares} {
		answer = answer[:cap(answer)]
		for i := range answer {
			answer[i] = -1
		}
	}
	wantUnits(t, list, 1<<31, 1<<31, 1<<31)
	wantShares(t, 10, list, 4, 3, 3)
}

func FuzzSharesAgree(f *testing.F) {
	f.Add(10, []byte{})
	f.Add(7, fromWeights(nan, inf, 5, inf))
	f.Add(7, fromWeights(minus0, nan))
	f.Add(3, fromWeights(least, 3*least, most))
	f.Add(api.MaxTotal, fromWeights(0.1, 0.2, 0.3, 1e-9))
	f.Fuzz(func(t *testing.T, total int, b []byte) {
		list := make([]float64, len(b)/8)
		for i := range list {
			list[i] = math.Float64frombits(binary.BigEndian.Uint64(b[8*i:]))
		}
		wantUnits(t, list, unitsAsSaid(list)...)
		checkShares(t, total, list)
	})
}

// fromWeights: the bytes of which the fuzz test makes weights.
func fromWeights(weights ...float64) []byte {
	var b []byte
	for _, w := range weights {
		b = binary.BigEndian.AppendUint64(b, math.Float64bits(w))
	}
	return b
}
