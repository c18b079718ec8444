package rate_test

import (
	"math"
	"math/big"
	"math/rand"
	"testing"

	"stowage/api"
	"stowage/rate"
)

var (
	nan      = math.NaN()
	inf      = math.Inf(1)
	minusInf = math.Inf(-1)
	minus0   = math.Copysign(0, -1)
)

// one: a block in the parts of rates and levels.
const one = 65536

// least and most: the ends of the floats above 0, but for infinity.
const (
	least = math.SmallestNonzeroFloat64
	most  = math.MaxFloat64
)

// nothing: rates that are no number, or not above 0, of all kinds.
func nothing() []float64 {
	return []float64{
		nan, math.Copysign(nan, -1), math.Float64frombits(0x7FF0000000000001), math.Float64frombits(0xFFFFFFFFFFFFFFFF),
		minusInf, -most, -one, -1, -0.5, -least, 0, minus0,
	}
}

// someBucket: a sound bucket, at its ends more often than by chance, the same in each run with one seed.
func someBucket(r *rand.Rand) api.Bucket {
	b := api.Bucket{
		Rate:  r.Intn(api.MaxFixed+1) >> r.Intn(34),
		Burst: 1 + r.Intn(api.MaxBurst),
		At:    r.Intn(api.MaxTime+1) >> r.Intn(42),
	}
	switch r.Intn(4) {
	case 0:
		b.Level = one * b.Burst
	case 1:
		b.Level = one * r.Intn(b.Burst+1)
	case 2:
		b.Level = r.Intn(one*b.Burst+1) >> r.Intn(23)
	}
	return b
}

// someMoment: a moment near b's, or anywhere, and now and then one that is none.
func someMoment(r *rand.Rand, b api.Bucket) int {
	switch r.Intn(8) {
	case 0:
		return b.At
	case 1:
		return b.At - 1 - r.Intn(3)
	case 2:
		return api.MaxTime - r.Intn(3)
	case 3:
		return api.MaxTime + 1 + r.Intn(3)
	}
	return b.At + r.Intn(api.MaxTime)>>r.Intn(42)
}

// unsound: buckets each of which is not sound by one field alone, if they have one.
func unsound() []api.Bucket {
	return []api.Bucket{
		{},
		{Rate: -1, Burst: 1},
		{Rate: math.MinInt, Burst: 1},
		{Rate: api.MaxFixed + 1, Burst: 1},
		{Rate: math.MaxInt, Burst: 1},
		{Rate: 1, Burst: 0},
		{Rate: 1, Burst: -1},
		{Rate: 1, Burst: math.MinInt},
		{Rate: 1, Burst: api.MaxBurst + 1},
		{Rate: 1, Burst: 1 << 48},
		{Rate: 1, Burst: 1<<48 + 1, Level: 1},
		{Rate: 1, Burst: math.MaxInt},
		{Rate: 1, Burst: 1, Level: -1},
		{Rate: 1, Burst: 1, Level: math.MinInt},
		{Rate: 1, Burst: 1, Level: one + 1},
		{Rate: 1, Burst: api.MaxBurst, Level: one*api.MaxBurst + 1},
		{Rate: 1, Burst: 1, Level: math.MaxInt},
		{Rate: 1, Burst: 1, At: -1},
		{Rate: 1, Burst: 1, At: math.MinInt},
		{Rate: 1, Burst: 1, At: api.MaxTime + 1},
		{Rate: 1, Burst: 1, At: math.MaxInt},
	}
}

// soundAsSaid: whether b is sound, as the document says it.
func soundAsSaid(b api.Bucket) bool {
	return b.Rate >= 0 && b.Rate <= 1<<32 && b.Burst >= 1 && b.Burst <= 64 &&
		b.Level >= 0 && b.Level <= 65536*b.Burst && b.At >= 0 && b.At <= 1<<40
}

// levelAsSaid: a sound bucket's level at a moment, reckoned with numbers of any size.
func levelAsSaid(b api.Bucket, at int) int {
	level := new(big.Int).Mul(big.NewInt(int64(b.Rate)), big.NewInt(int64(at-b.At)))
	level.Add(level, big.NewInt(int64(b.Level)))
	if full := big.NewInt(int64(65536 * b.Burst)); level.Cmp(full) > 0 {
		level = full
	}
	return int(level.Int64())
}

// fillAsSaid: Fill as the document says it.
func fillAsSaid(b api.Bucket, at int) (api.Bucket, api.Errno) {
	if !soundAsSaid(b) {
		return api.Bucket{}, api.ErrForm
	}
	if at < b.At || at > 1<<40 {
		return api.Bucket{}, api.ErrArg
	}
	return api.Bucket{Rate: b.Rate, Burst: b.Burst, Level: levelAsSaid(b, at), At: at}, api.OK
}

// takeAsSaid: Take as the document says it.
func takeAsSaid(b api.Bucket, n, at int) (api.Bucket, api.Errno) {
	f, e := fillAsSaid(b, at)
	switch {
	case e != api.OK:
		return api.Bucket{}, e
	case n < 0 || n > b.Burst:
		return api.Bucket{}, api.ErrRange
	case f.Level < 65536*n:
		return api.Bucket{}, api.ErrWait
	}
	f.Level -= 65536 * n
	return f, api.OK
}

// readyAsSaid: Ready as the document says it; the moment is found by halving, since later ones never have less.
func readyAsSaid(b api.Bucket, n, at int) (int, api.Errno) {
	if _, e := takeAsSaid(b, n, at); e != api.ErrWait {
		if e == api.OK {
			return at, api.OK
		}
		return 0, e
	}
	if _, e := takeAsSaid(b, n, 1<<40); e == api.ErrWait {
		return 0, api.ErrNone
	}
	early, late := at, 1<<40
	for late-early > 1 {
		middle := early + (late-early)/2
		if _, e := takeAsSaid(b, n, middle); e == api.ErrWait {
			early = middle
		} else {
			late = middle
		}
	}
	return late, api.OK
}

func wantFixed(t *testing.T, r float64, want int) {
	t.Helper()
	if got := rate.Fixed(r); got != want {
		t.Errorf("Fixed(%v) = %d, want %d", r, got, want)
	}
}

func wantFloat(t *testing.T, fixed int, want float64) {
	t.Helper()
	if got := rate.Float(fixed); math.Float64bits(got) != math.Float64bits(want) {
		t.Errorf("Float(%d) = %v, want %v", fixed, got, want)
	}
}

func checkFixed(t *testing.T, r float64) {
	t.Helper()
	wantFixed(t, r, fixedAsSaid(r))
}

// fixedAsSaid: Fixed as the document says it, with exact numbers.
func fixedAsSaid(r float64) int {
	if math.IsNaN(r) || !(r > 0) {
		return 0
	}
	if r > 65536 {
		return 1 << 32
	}
	exact := new(big.Rat).Mul(new(big.Rat).SetFloat64(r), big.NewRat(65536, 1))
	return int(new(big.Int).Quo(exact.Num(), exact.Denom()).Int64())
}

// floatAsSaid: Float as the document says it, of an exact fraction.
func floatAsSaid(fixed int) float64 {
	f, _ := big.NewRat(int64(fixed), 65536).Float64()
	return f
}

func checkNew(t *testing.T, r, burst, at int) {
	t.Helper()
	want, wantE := api.Bucket{Rate: r, Burst: burst, Level: 65536 * burst, At: at}, api.OK
	if r < 0 || r > 1<<32 || burst < 1 || burst > 64 || at < 0 || at > 1<<40 {
		want, wantE = api.Bucket{}, api.ErrArg
	}
	if got, e := rate.New(r, burst, at); got != want || e != wantE {
		t.Errorf("New(%d, %d, %d) = %+v, %d, want %+v, %d", r, burst, at, got, e, want, wantE)
	}
}

func wantFill(t *testing.T, b api.Bucket, at int, want api.Bucket, wantE api.Errno) {
	t.Helper()
	if got, e := rate.Fill(b, at); got != want || e != wantE {
		t.Errorf("Fill(%+v, %d) = %+v, %d, want %+v, %d", b, at, got, e, want, wantE)
	}
}

func wantTake(t *testing.T, b api.Bucket, n, at int, want api.Bucket, wantE api.Errno) {
	t.Helper()
	if got, e := rate.Take(b, n, at); got != want || e != wantE {
		t.Errorf("Take(%+v, %d, %d) = %+v, %d, want %+v, %d", b, n, at, got, e, want, wantE)
	}
}

func wantReady(t *testing.T, b api.Bucket, n, at int, want int, wantE api.Errno) {
	t.Helper()
	if got, e := rate.Ready(b, n, at); got != want || e != wantE {
		t.Errorf("Ready(%+v, %d, %d) = %d, %d, want %d, %d", b, n, at, got, e, want, wantE)
	}
}

// checkAll: what is asked of a bucket is answered as it is said.
func checkAll(t *testing.T, b api.Bucket, n, at int) {
	t.Helper()
	filled, e := fillAsSaid(b, at)
	wantFill(t, b, at, filled, e)
	taken, e := takeAsSaid(b, n, at)
	wantTake(t, b, n, at, taken, e)
	moment, e := readyAsSaid(b, n, at)
	wantReady(t, b, n, at, moment, e)
}

// P9.1

func TestKnownRates(t *testing.T) {
	wantFixed(t, 1, 65536)
	wantFixed(t, 0.5, 32768)
	wantFixed(t, 1.0/3, 21845)
	wantFixed(t, 2.0/3, 43690)
	wantFixed(t, 1.0/65536, 1)
	wantFixed(t, 3.999999999, 262143)
	wantFixed(t, 1000, 65536000)
}

func TestRatesThatAreNothing(t *testing.T) {
	for _, r := range nothing() {
		wantFixed(t, r, 0)
	}
}

func TestRatesAboveTheGreatest(t *testing.T) {
	wantFixed(t, math.Nextafter(65536, 0), api.MaxFixed-1)
	wantFixed(t, 65536, api.MaxFixed)
	for _, r := range []float64{math.Nextafter(65536, inf), 65537, 1 << 31, 1 << 32, 1 << 47, 1 << 48, 1 << 63, 1e300, most, inf} {
		wantFixed(t, r, api.MaxFixed)
	}
}

// The fraction goes, however near it comes to the next whole number.
func TestRatesAreWithoutTheirFraction(t *testing.T) {
	part := 1.0 / 65536
	wantFixed(t, least, 0)
	wantFixed(t, math.Nextafter(part, 0), 0)
	wantFixed(t, math.Nextafter(part, 1), 1)
	for _, n := range []int{1, 2, 3, 1000, 65535, 65536, 65537, 1<<31 - 1, 1 << 31, 1<<32 - 1, 1 << 32} {
		r := float64(n) * part
		wantFixed(t, r, n)
		wantFixed(t, math.Nextafter(r, 0), n-1)
		wantFixed(t, (float64(n)-0.5)*part, n-1)
	}
}

func TestRatesOfThePowersOf2(t *testing.T) {
	for e := -1074; e <= 1023; e++ {
		r := math.Ldexp(1, e)
		checkFixed(t, r)
		checkFixed(t, -r)
		checkFixed(t, math.Nextafter(r, 0))
		checkFixed(t, math.Nextafter(r, inf))
	}
}

func TestFixedIsAsItIsSaid(t *testing.T) {
	r := rand.New(rand.NewSource(1))
	for range 20000 {
		checkFixed(t, math.Ldexp(r.Float64(), r.Intn(36)-17))
	}
}

func TestKnownFloats(t *testing.T) {
	wantFloat(t, 0, 0)
	wantFloat(t, 1, 1.0/65536)
	wantFloat(t, -1, -1.0/65536)
	wantFloat(t, 65536, 1)
	wantFloat(t, -32768, -0.5)
	wantFloat(t, 98304, 1.5)
	wantFloat(t, api.MaxFixed, 65536)
	wantFloat(t, math.MaxInt, 1<<47)
	wantFloat(t, math.MinInt, -1<<47)
}

// From 2^53 on a number may stand between two floats: the nearest one is taken, in the middle the even one.
func TestFloatsThatAreRounded(t *testing.T) {
	wantFloat(t, 1<<53+1, 1<<37)
	wantFloat(t, 1<<53+3, (1<<53+4)/65536.0)
	wantFloat(t, -1<<53-1, -1<<37)
	wantFloat(t, -1<<53-3, -(1<<53+4)/65536.0)
	wantFloat(t, 1<<54+2, 1<<38)
	wantFloat(t, 1<<54+3, (1<<54+4)/65536.0)
	wantFloat(t, 1<<62+1<<9, 1<<46)
	wantFloat(t, 1<<62+1<<9+1, (1<<62+1<<10)/65536.0)
	for bit := range 63 {
		for d := -9; d <= 9; d++ {
			wantFloat(t, 1<<bit+d, floatAsSaid(1<<bit+d))
			wantFloat(t, -1<<bit+d, floatAsSaid(-1<<bit+d))
			wantFloat(t, math.MaxInt-1<<bit+d, floatAsSaid(math.MaxInt-1<<bit+d))
		}
	}
}

func TestFloatIsAsItIsSaid(t *testing.T) {
	r := rand.New(rand.NewSource(2))
	for range 20000 {
		fixed := int(r.Uint64()) >> r.Intn(63)
		wantFloat(t, fixed, floatAsSaid(fixed))
	}
}

func TestFixedUndoesFloat(t *testing.T) {
	r := rand.New(rand.NewSource(3))
	for range 20000 {
		fixed := r.Intn(api.MaxFixed+1) >> r.Intn(33)
		wantFixed(t, rate.Float(fixed), fixed)
	}
	wantFixed(t, rate.Float(api.MaxFixed), api.MaxFixed)
	wantFixed(t, rate.Float(api.MaxFixed+1), api.MaxFixed)
	wantFixed(t, rate.Float(-1), 0)
}

// P9.2

func TestNewBuckets(t *testing.T) {
	b, e := rate.New(32768, 3, 10)
	if want := (api.Bucket{Rate: 32768, Burst: 3, Level: 3 * one, At: 10}); b != want || e != api.OK {
		t.Errorf("New(32768, 3, 10) = %+v, %d, want %+v", b, e, want)
	}
}

func TestNewAtTheEnds(t *testing.T) {
	rates := []int{math.MinInt, -1, 0, 1, api.MaxFixed - 1, api.MaxFixed, api.MaxFixed + 1, math.MaxInt}
	bursts := []int{math.MinInt, -1, 0, 1, 2, api.MaxBurst - 1, api.MaxBurst, api.MaxBurst + 1, 1 << 48, 1<<48 + 1, math.MaxInt}
	moments := []int{math.MinInt, -1, 0, 1, api.MaxTime - 1, api.MaxTime, api.MaxTime + 1, math.MaxInt}
	for _, r := range rates {
		for _, burst := range bursts {
			for _, at := range moments {
				checkNew(t, r, burst, at)
			}
		}
	}
}

// P9.3

func TestKnownFills(t *testing.T) {
	b := api.Bucket{Rate: 32768, Burst: 3, At: 10}
	for moments, level := range []int{0, 32768, 65536, 98304, 131072, 163840, 196608, 196608, 196608} {
		wantFill(t, b, 10+moments, api.Bucket{Rate: 32768, Burst: 3, Level: level, At: 10 + moments}, api.OK)
	}
	b = api.Bucket{Rate: 7, Burst: 1, Level: one - 20, At: 0}
	for moments, level := range []int{one - 20, one - 13, one - 6, one, one} {
		wantFill(t, b, moments, api.Bucket{Rate: 7, Burst: 1, Level: level, At: moments}, api.OK)
	}
}

func TestFillOfWhatIsNotSound(t *testing.T) {
	for _, b := range unsound() {
		for _, at := range []int{0, 1, b.At, -1, api.MaxTime, api.MaxTime + 1, math.MinInt, math.MaxInt} {
			wantFill(t, b, at, api.Bucket{}, api.ErrForm)
			wantTake(t, b, 1, at, api.Bucket{}, api.ErrForm)
			wantTake(t, b, -1, at, api.Bucket{}, api.ErrForm)
			wantReady(t, b, 1, at, 0, api.ErrForm)
			wantReady(t, b, math.MaxInt, at, 0, api.ErrForm)
		}
	}
}

func TestFillAtMomentsThatAreNone(t *testing.T) {
	for _, b := range []api.Bucket{
		{Rate: 1, Burst: 1, Level: 5, At: 10},
		{Rate: 0, Burst: 64, Level: 64 * one, At: api.MaxTime},
		{Rate: api.MaxFixed, Burst: 2},
	} {
		for _, at := range []int{b.At - 1, -1, math.MinInt, api.MaxTime + 1, math.MaxInt} {
			wantFill(t, b, at, api.Bucket{}, api.ErrArg)
			wantTake(t, b, 1, at, api.Bucket{}, api.ErrArg)
			wantTake(t, b, 0, at, api.Bucket{}, api.ErrArg)
			wantTake(t, b, 65, at, api.Bucket{}, api.ErrArg)
			wantReady(t, b, 1, at, 0, api.ErrArg)
			wantReady(t, b, -1, at, 0, api.ErrArg)
		}
		wantFill(t, b, b.At, b, api.OK)
	}
}

// Rate times the moments may be 2^72: a level that were reckoned so would be anything.
func TestFillOfGreatRatesAndTimes(t *testing.T) {
	for _, r := range []int{1, 2, 1 << 24, 3 << 22, 1 << 31, api.MaxFixed - 1, api.MaxFixed} {
		for _, level := range []int{0, 1, 64*one - 1, 64 * one} {
			for _, at := range []int{1 << 22, 1<<22 + 1, 1 << 31, 1 << 32, 1<<39 + 1, api.MaxTime - 1, api.MaxTime} {
				b := api.Bucket{Rate: r, Burst: 64, Level: level}
				wantFill(t, b, at, api.Bucket{Rate: r, Burst: 64, Level: 64 * one, At: at}, api.OK)
			}
		}
	}
}

func TestFillWithoutRate(t *testing.T) {
	for _, level := range []int{0, 1, one, 5*one - 1, 5 * one} {
		for _, at := range []int{3, 4, 1 << 30, api.MaxTime} {
			wantFill(t, api.Bucket{Burst: 5, Level: level, At: 3}, at, api.Bucket{Burst: 5, Level: level, At: at}, api.OK)
		}
	}
}

// The level comes to the whole by what is missing, one part more or less.
func TestFillsThatAreNearlyFull(t *testing.T) {
	for _, r := range []int{1, 3, 1000, one - 1, one, one + 1} {
		for moments := 1; moments <= 20; moments++ {
			for d := -2; d <= 2; d++ {
				b := api.Bucket{Rate: r, Burst: 32, Level: 32*one - r*moments + d, At: 77}
				checkAll(t, b, 32, 77+moments)
				checkAll(t, b, 32, 77+moments-1)
				checkAll(t, b, 32, 77)
			}
		}
	}
}

// Filled on the way or not, a bucket holds as much.
func TestFillsFollowEachOther(t *testing.T) {
	r := rand.New(rand.NewSource(4))
	for range 20000 {
		b := someBucket(r)
		first := b.At + r.Intn(api.MaxTime-b.At+1)>>r.Intn(41)
		second := first + r.Intn(api.MaxTime-first+1)>>r.Intn(41)
		middle, e := rate.Fill(b, first)
		if e != api.OK {
			t.Fatalf("Fill(%+v, %d): %d", b, first, e)
		}
		want, _ := rate.Fill(b, second)
		wantFill(t, middle, second, want, api.OK)
	}
}

// P9.4

func TestKnownTakes(t *testing.T) {
	b := api.Bucket{Rate: 32768, Burst: 3, Level: 3 * one, At: 10}
	wantTake(t, b, 3, 10, api.Bucket{Rate: 32768, Burst: 3, Level: 0, At: 10}, api.OK)
	wantTake(t, b, 1, 10, api.Bucket{Rate: 32768, Burst: 3, Level: 2 * one, At: 10}, api.OK)
	wantTake(t, b, 0, 10, b, api.OK)
	b.Level = one + 1
	wantTake(t, b, 2, 10, api.Bucket{}, api.ErrWait)
	wantTake(t, b, 2, 11, api.Bucket{}, api.ErrWait)
	wantTake(t, b, 2, 12, api.Bucket{Rate: 32768, Burst: 3, Level: 1, At: 12}, api.OK)
	wantTake(t, b, 3, 1000, api.Bucket{Rate: 32768, Burst: 3, Level: 0, At: 1000}, api.OK)
	wantTake(t, b, 0, api.MaxTime, api.Bucket{Rate: 32768, Burst: 3, Level: 3 * one, At: api.MaxTime}, api.OK)
}

func TestTakeAtTheEdgeOfALevel(t *testing.T) {
	for n := 1; n <= api.MaxBurst; n++ {
		b := api.Bucket{Burst: api.MaxBurst, Level: n*one - 1}
		wantTake(t, b, n, 5, api.Bucket{}, api.ErrWait)
		b.Level++
		wantTake(t, b, n, 5, api.Bucket{Burst: api.MaxBurst, At: 5}, api.OK)
		wantTake(t, b, n-1, 5, api.Bucket{Burst: api.MaxBurst, Level: one, At: 5}, api.OK)
	}
}

// ErrRange goes ahead of ErrWait, also where nothing could ever be taken.
func TestTakesOfTooMuch(t *testing.T) {
	for _, b := range []api.Bucket{
		{Burst: 3}, {Burst: 3, Level: 3 * one}, {Rate: api.MaxFixed, Burst: 1, Level: one, At: 7}, {Rate: 1, Burst: 64},
	} {
		for _, n := range []int{math.MinInt, -1 << 48, -2, -1, b.Burst + 1, b.Burst + 2, 65, 1 << 47, 1 << 48, 1<<48 + 1, math.MaxInt} {
			for _, at := range []int{b.At, 100, api.MaxTime} {
				wantTake(t, b, n, at, api.Bucket{}, api.ErrRange)
				wantReady(t, b, n, at, 0, api.ErrRange)
			}
		}
		wantTake(t, b, 0, 100, must(rate.Fill(b, 100)), api.OK)
	}
}

func must(b api.Bucket, _ api.Errno) api.Bucket { return b }

func TestKnownReadyMoments(t *testing.T) {
	b := api.Bucket{Rate: 32768, Burst: 3, At: 10}
	wantReady(t, b, 0, 10, 10, api.OK)
	wantReady(t, b, 1, 10, 12, api.OK)
	wantReady(t, b, 2, 10, 14, api.OK)
	wantReady(t, b, 2, 11, 14, api.OK)
	wantReady(t, b, 2, 14, 14, api.OK)
	wantReady(t, b, 2, 15, 15, api.OK)
	wantReady(t, b, 3, 10, 16, api.OK)
	wantReady(t, b, 3, api.MaxTime, api.MaxTime, api.OK)
	b.Rate = 32767
	wantReady(t, b, 1, 10, 13, api.OK)
	b.Rate = api.MaxFixed
	wantReady(t, b, 3, 10, 11, api.OK)
}

func TestWhatIsNeverReady(t *testing.T) {
	b := api.Bucket{Burst: 3, Level: 2*one - 1, At: 10}
	wantReady(t, b, 0, 10, 10, api.OK)
	wantReady(t, b, 1, 20, 20, api.OK)
	wantReady(t, b, 2, 20, 0, api.ErrNone)
	wantReady(t, b, 3, 10, 0, api.ErrNone)
	wantReady(t, b, 2, api.MaxTime, 0, api.ErrNone)
}

func TestReadyAtTheEndOfTime(t *testing.T) {
	for _, missing := range []int{1, 2, 5, one} {
		b := api.Bucket{Rate: 1, Burst: 1, Level: one - missing, At: api.MaxTime - missing}
		wantReady(t, b, 1, b.At, api.MaxTime, api.OK)
		wantReady(t, b, 1, api.MaxTime, api.MaxTime, api.OK)
		wantReady(t, b, 0, b.At, b.At, api.OK)
		b.At++
		wantReady(t, b, 1, b.At, 0, api.ErrNone)
		wantReady(t, b, 1, api.MaxTime, 0, api.ErrNone)
		wantReady(t, b, 0, b.At, b.At, api.OK)
	}
	wantReady(t, api.Bucket{Rate: api.MaxFixed, Burst: 64, At: api.MaxTime}, 1, api.MaxTime, 0, api.ErrNone)
	wantReady(t, api.Bucket{Rate: api.MaxFixed, Burst: 64, At: api.MaxTime - 1}, 64, api.MaxTime-1, api.MaxTime, api.OK)
}

func TestBucketsAreAsItIsSaid(t *testing.T) {
	r := rand.New(rand.NewSource(5))
	for range 20000 {
		b := someBucket(r)
		checkAll(t, b, r.Intn(b.Burst+3)-1, someMoment(r, b))
	}
}

// What follows, and P7

// Within any time what is taken is at most the burst, and the rate times the moments.
func TestTakesWithinAnyTime(t *testing.T) {
	for seed := range 200 {
		r := rand.New(rand.NewSource(int64(seed)))
		burst := 1 + r.Intn(9)
		b, e := rate.New(r.Intn(3*one), burst, 0)
		if e != api.OK {
			t.Fatal(e)
		}
		var taken, moments []int
		for at := 0; len(taken) < 60 && at < 500; at += r.Intn(4) {
			n := r.Intn(burst + 1)
			if f, e := rate.Take(b, n, at); e == api.OK {
				b = f
				taken, moments = append(taken, n), append(moments, at)
			}
		}
		for i := range taken {
			all := 0
			for j := i; j < len(taken); j++ {
				all += taken[j]
				if all*one > burst*one+b.Rate*(moments[j]-moments[i]) {
					t.Fatalf("seed %d: %d taken from moment %d to %d of rate %d, burst %d", seed, all, moments[i], moments[j], b.Rate, burst)
				}
			}
		}
	}
}

// At the moment that Ready tells Take goes, and at none between.
func TestWaitingIsNeverTooShortOrTooLong(t *testing.T) {
	r := rand.New(rand.NewSource(6))
	for range 500 {
		b := someBucket(r)
		b.Rate = 1000 + r.Intn(3*one)
		b.At /= 2
		n := r.Intn(b.Burst + 1)
		ready, e := rate.Ready(b, n, b.At)
		if e != api.OK {
			t.Fatalf("Ready(%+v, %d, %d): %d", b, n, b.At, e)
		}
		for at := b.At; at < ready; at++ {
			wantTake(t, b, n, at, api.Bucket{}, api.ErrWait)
		}
		if _, e := rate.Take(b, n, ready); e != api.OK {
			t.Errorf("Take(%+v, %d, %d): %d", b, n, ready, e)
		}
	}
}

// R1

func TestAnyArguments(t *testing.T) {
	ends := []int{math.MinInt, math.MinInt + 1, -one, -1, 0, 1, 64, 65, one, 64 * one, 1 << 32, 1 << 40, 1 << 48, math.MaxInt - 1, math.MaxInt}
	for _, r := range ends {
		for _, burst := range ends {
			for _, level := range ends {
				for _, at := range ends {
					b := api.Bucket{Rate: r, Burst: burst, Level: level, At: at}
					for i, n := range ends {
						checkAll(t, b, n, ends[(i+7)%len(ends)])
					}
				}
			}
		}
	}
}

func FuzzBucketsAgree(f *testing.F) {
	f.Add(32768, 3, 0, 10, 2, 11, 0.5)
	f.Add(api.MaxFixed, 64, 64*one, 0, 64, api.MaxTime, 65536.0)
	f.Add(0, 1, one-1, 5, 1, api.MaxTime+1, nan)
	f.Add(1, 65, -1, api.MaxTime, -1, 0, minusInf)
	f.Fuzz(func(t *testing.T, r, burst, level, at, n, moment int, float float64) {
		checkFixed(t, float)
		wantFloat(t, r, floatAsSaid(r))
		checkNew(t, r, burst, at)
		checkAll(t, api.Bucket{Rate: r, Burst: burst, Level: level, At: at}, n, moment)
	})
}
