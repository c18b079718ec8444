package sample_test

import (
	"encoding/binary"
	"math"
	"math/big"
	"math/rand"
	"slices"
	"testing"

	"stowage/api"
	"stowage/sample"
)

// ends: numbers at their ends, and near what the layer sets apart.
func ends() []int {
	return []int{
		math.MinInt, math.MinInt + 1, -1 << 32, -api.MaxHash, -2, -1, 0, 1, 2, 31, api.MaxList - 1, api.MaxList, api.MaxList + 1,
		api.MaxHash - 1, api.MaxHash, api.MaxHash + 1, 1<<32 - 1, 1 << 32, 1 << 53, math.MaxInt - 1, math.MaxInt,
	}
}

// someRefs: n references to at most so many numbers, the same in each run with one seed.
func someRefs(seed, n, numbers int) []int {
	r := rand.New(rand.NewSource(int64(seed)))
	refs := make([]int, n)
	for i := range refs {
		refs[i] = r.Intn(numbers) - numbers/2
	}
	return refs
}

// hashAsSaid: Hash as the document says it, with numbers of any size that are cut to 64 bits.
func hashAsSaid(volume, block int) int {
	h := new(big.Int).Mul(number("9E3779B97F4A7C15"), big.NewInt(int64(volume)))
	h.Add(h, new(big.Int).Mul(number("C2B2AE3D27D4EB4F"), big.NewInt(int64(block))))
	h = wrapped(h)
	h.Xor(h, new(big.Int).Rsh(h, 29))
	h = wrapped(h.Mul(h, number("BF58476D1CE4E5B9")))
	h.Xor(h, new(big.Int).Rsh(h, 32))
	return int(h.Mod(h, big.NewInt(16777216)).Int64())
}

func number(hex string) *big.Int {
	n, _ := new(big.Int).SetString(hex, 16)
	return n
}

// wrapped: n modulo 2^64, from 0 on.
func wrapped(n *big.Int) *big.Int { return n.Mod(n, new(big.Int).Lsh(big.NewInt(1), 64)) }

// distancesAsSaid: Distances as the document says it: back from each reference up to its number, or the beginning.
func distancesAsSaid(refs []int) []int {
	if len(refs) > 4096 {
		return nil
	}
	out := make([]int, len(refs))
	for i, ref := range refs {
		out[i] = -1
		between := map[int]int{}
		for j := i - 1; j >= 0; j-- {
			if refs[j] == ref {
				out[i] = len(between)
				break
			}
			between[refs[j]]++
		}
	}
	return out
}

// histogramAsSaid: Histogram as the document says it, all distances looked at for each number.
func histogramAsSaid(distances []int, size int) ([]int, int, api.Errno) {
	if size < 0 || size > 4096 || len(distances) > 4096 {
		return nil, 0, api.ErrArg
	}
	counts, rest := make([]int, size), len(distances)
	for n := range counts {
		for _, d := range distances {
			if d == n {
				counts[n]++
				rest--
			}
		}
	}
	return counts, rest, api.OK
}

func wantHash(t *testing.T, volume, block, want int) {
	t.Helper()
	if got := sample.Hash(volume, block); got != want {
		t.Errorf("Hash(%d, %d) = %d, want %d", volume, block, got, want)
	}
}

func wantTaken(t *testing.T, volume, block, of int, want bool) {
	t.Helper()
	if got := sample.Taken(volume, block, of); got != want {
		t.Errorf("Taken(%d, %d, %d) = %v, want %v", volume, block, of, got, want)
	}
}

func wantDistances(t *testing.T, refs []int, want ...int) {
	t.Helper()
	if got := sample.Distances(refs); !slices.Equal(got, want) {
		t.Errorf("Distances(%v) = %v, want %v", refs, got, want)
	}
}

func wantHistogram(t *testing.T, distances []int, size int, want []int, wantRest int) {
	t.Helper()
	got, rest, e := sample.Histogram(distances, size)
	if !slices.Equal(got, want) || rest != wantRest || e != api.OK {
		t.Errorf("Histogram(%v, %d) = %v, %d, %d, want %v, %d", distances, size, got, rest, e, want, wantRest)
	}
}

func refused(t *testing.T, distances []int, size int) {
	t.Helper()
	if got, rest, e := sample.Histogram(distances, size); len(got) != 0 || rest != 0 || e != api.ErrArg {
		t.Errorf("Histogram(%d distances, %d) = %v, %d, %d, want ErrArg", len(distances), size, got, rest, e)
	}
}

// checkHash: a block's place is as it is said, one of MaxHash, and by it the block is taken or not.
func checkHash(t *testing.T, volume, block, of int) {
	t.Helper()
	want := hashAsSaid(volume, block)
	wantHash(t, volume, block, want)
	if want < 0 || want >= api.MaxHash {
		t.Errorf("Hash(%d, %d) = %d", volume, block, want)
	}
	wantTaken(t, volume, block, of, want < of)
	wantTaken(t, volume, block, want, false)
	wantTaken(t, volume, block, want+1, true)
}

func checkHistogram(t *testing.T, distances []int, size int) {
	t.Helper()
	want, wantRest, wantE := histogramAsSaid(distances, size)
	if wantE != api.OK {
		refused(t, distances, size)
		return
	}
	wantHistogram(t, distances, size, want, wantRest)
}

// P10.1

func TestKnownHashes(t *testing.T) {
	for _, known := range [][3]int{
		{0, 0, 0}, {1, 0, 8226937}, {0, 1, 8556855}, {1, 1, 2333800}, {1, 2, 4387837}, {2, 1, 4024685},
		{3, 0, 6673895}, {3, 31, 16717778}, {7, 8, 15313469}, {8, 31, 130423}, {1 << 32, 1, 2782126}, {1, 1 << 32, 11042027},
	} {
		wantHash(t, known[0], known[1], known[2])
	}
}

// Numbers below 0 count as their remainders modulo 2^64.
func TestHashesOfNumbersBelow0(t *testing.T) {
	for _, known := range [][3]int{
		{-1, 0, 14848491}, {0, -1, 15396568}, {-1, -1, 15365757}, {math.MaxInt, math.MaxInt, 15365757},
		{math.MinInt, 0, 9672420}, {0, math.MinInt, 9672420}, {math.MinInt, math.MinInt, 0}, {math.MinInt, math.MaxInt, 15396568},
	} {
		wantHash(t, known[0], known[1], known[2])
	}
}

func TestHashesAtTheEnds(t *testing.T) {
	for _, volume := range ends() {
		for _, block := range ends() {
			checkHash(t, volume, block, api.MaxHash/2)
		}
	}
}

func TestHashesAreAsItIsSaid(t *testing.T) {
	for volume := range api.MaxVolumes + 1 {
		for block := range 2 * api.MaxBlocks {
			checkHash(t, volume, block, block*api.MaxHash/api.MaxBlocks)
		}
	}
	r := rand.New(rand.NewSource(1))
	for range 20000 {
		volume, block := int(r.Uint64())>>r.Intn(64), int(r.Uint64())>>r.Intn(64)
		checkHash(t, volume, block, r.Intn(api.MaxHash+3)-1)
	}
}

func TestTakenAtTheEnds(t *testing.T) {
	r := rand.New(rand.NewSource(2))
	for range 1000 {
		volume, block := int(r.Uint64()), int(r.Uint64())
		for _, of := range []int{math.MinInt, -api.MaxHash, -1, 0} {
			wantTaken(t, volume, block, of, false)
		}
		for _, of := range []int{api.MaxHash, api.MaxHash + 1, 1 << 32, math.MaxInt} {
			wantTaken(t, volume, block, of, true)
		}
	}
	wantTaken(t, 0, 0, 0, false)
	wantTaken(t, 0, 0, 1, true)
	wantTaken(t, 3, 31, 16717778, false)
	wantTaken(t, 3, 31, 16717779, true)
}

// So many of MaxHash are taken as are asked for, or nearly so.
func TestTakenAreAsManyAsIsAsked(t *testing.T) {
	const blocks = 1 << 16
	for _, parts := range []int{2, 3, 8, 64} {
		taken := 0
		for block := range blocks {
			if sample.Taken(5, block, api.MaxHash/parts) {
				taken++
			}
		}
		if want := blocks / parts; taken < want*9/10 || taken > want*11/10 {
			t.Errorf("%d of %d taken, of one in %d", taken, blocks, parts)
		}
	}
}

// P10.2

func TestKnownDistances(t *testing.T) {
	wantDistances(t, []int{5, 6, 5, 5, 7, 6}, -1, -1, 1, 0, -1, 2)
	wantDistances(t, []int{1, 2, 3, 1, 2, 3}, -1, -1, -1, 2, 2, 2)
	wantDistances(t, []int{-4, 4, 4, -4}, -1, -1, 0, 1)
	wantDistances(t, []int{1, 2, 3, 3, 2, 1}, -1, -1, -1, 0, 1, 2)
	wantDistances(t, []int{9}, -1)
	wantDistances(t, []int{0, 0}, -1, 0)
	wantDistances(t, []int{0, -1, 0, -1}, -1, -1, 1, 1)
}

// A number between counts once, however often it stands there, and what stands farther ahead does not count.
func TestDistancesCountDifferentNumbers(t *testing.T) {
	wantDistances(t, []int{1, 2, 2, 2, 1}, -1, -1, 0, 0, 1)
	wantDistances(t, []int{1, 2, 3, 2, 3, 2, 1}, -1, -1, -1, 1, 1, 1, 2)
	wantDistances(t, []int{1, 2, 3, 1, 1, 2}, -1, -1, -1, 2, 0, 2)
	wantDistances(t, []int{4, 1, 4, 1, 4, 1, 1, 4}, -1, -1, 1, 1, 1, 1, 0, 1)
	wantDistances(t, []int{1, 2, 1, 3, 1, 2}, -1, -1, 1, -1, 1, 2)
}

func TestDistancesOfNothing(t *testing.T) {
	wantDistances(t, nil)
	wantDistances(t, []int{})
}

func TestDistancesOfNumbersAtTheirEnds(t *testing.T) {
	refs := ends()
	want := slices.Repeat([]int{-1}, len(refs))
	wantDistances(t, refs, want...)
	wantDistances(t, append(refs, refs...), append(want, slices.Repeat([]int{len(want) - 1}, len(want))...)...)
}

func TestAsManyReferencesAsMayBe(t *testing.T) {
	different := make([]int, api.MaxList+1)
	for i := range different {
		different[i] = i
	}
	never := slices.Repeat([]int{-1}, api.MaxList)
	wantDistances(t, different)
	wantDistances(t, different[1:], never...)
	half := api.MaxList / 2
	wantDistances(t, slices.Repeat(different[:half], 2), append(slices.Clone(never[:half]), slices.Repeat([]int{half - 1}, half)...)...)
	same := make([]int, 2*api.MaxList)
	wantDistances(t, same)
	wantDistances(t, same[:api.MaxList+1])
	wantDistances(t, same[:api.MaxList], append([]int{-1}, same[:api.MaxList-1]...)...)
}

func TestDistancesAreAsItIsSaid(t *testing.T) {
	for seed := range 1500 {
		refs := someRefs(seed, seed%90, 1+seed%17)
		wantDistances(t, refs, distancesAsSaid(refs)...)
	}
	for seed, numbers := range []int{2, 50, 1000, 20000} {
		refs := someRefs(seed, api.MaxList, numbers)
		wantDistances(t, refs, distancesAsSaid(refs)...)
	}
}

// A reference's distance is its number's place in a stack on top of which each number is laid that is referred to.
func TestDistancesArePlacesInAStack(t *testing.T) {
	for seed := range 300 {
		refs := someRefs(seed, 200, 1+seed%40)
		var stack, want []int
		for _, ref := range refs {
			at := slices.Index(stack, ref)
			if want = append(want, at); at >= 0 {
				stack = slices.Delete(stack, at, at+1)
			}
			stack = slices.Insert(stack, 0, ref)
		}
		wantDistances(t, refs, want...)
	}
}

// P10.3

func TestKnownHistograms(t *testing.T) {
	wantHistogram(t, []int{-1, 0, 2, 2, 9}, 3, []int{1, 0, 2}, 2)
	wantHistogram(t, []int{-1, -1, 1, 0, -1, 2}, 2, []int{1, 1}, 4)
	wantHistogram(t, []int{-1, -1, 1, 0, -1, 2}, 3, []int{1, 1, 1}, 3)
	wantHistogram(t, []int{3, 3, 3}, 5, []int{0, 0, 0, 3, 0}, 0)
	wantHistogram(t, []int{0}, 1, []int{1}, 0)
	wantHistogram(t, []int{1}, 1, []int{0}, 1)
}

func TestHistogramsOfNothing(t *testing.T) {
	wantHistogram(t, nil, 0, nil, 0)
	wantHistogram(t, []int{}, 0, nil, 0)
	wantHistogram(t, nil, 4, make([]int, 4), 0)
	wantHistogram(t, nil, api.MaxList, make([]int, api.MaxList), 0)
}

func TestHistogramsAtTheirEnds(t *testing.T) {
	wantHistogram(t, ends(), 0, nil, len(ends()))
	wantHistogram(t, ends(), 1, []int{1}, len(ends())-1)
	wantHistogram(t, ends(), 2, []int{1, 1}, len(ends())-2)
	all := make([]int, api.MaxList+1)
	for i := range all {
		all[i] = i
	}
	once := slices.Repeat([]int{1}, api.MaxList)
	wantHistogram(t, all[:api.MaxList], api.MaxList, once, 0)
	wantHistogram(t, all[1:], api.MaxList, append([]int{0}, once[1:]...), 1)
	wantHistogram(t, all[1:], 0, nil, api.MaxList)
	wantHistogram(t, make([]int, api.MaxList), 2, []int{api.MaxList, 0}, 0)
}

func TestHistogramsThatAreRefused(t *testing.T) {
	for _, size := range []int{math.MinInt, -api.MaxList, -2, -1, api.MaxList + 1, api.MaxList + 2, 1 << 32, math.MaxInt} {
		refused(t, nil, size)
		refused(t, []int{0, 1, -1}, size)
		refused(t, make([]int, api.MaxList+1), size)
	}
	for _, size := range []int{0, 1, 3, api.MaxList} {
		refused(t, make([]int, api.MaxList+1), size)
		refused(t, slices.Repeat([]int{-1}, 2*api.MaxList), size)
	}
}

func TestHistogramsAreAsItIsSaid(t *testing.T) {
	for seed := range 2000 {
		checkHistogram(t, someRefs(seed, seed%70, 1+seed%50), seed%33-1)
	}
	for seed, size := range []int{0, 100, api.MaxList - 1, api.MaxList, api.MaxList + 1} {
		checkHistogram(t, someRefs(seed, api.MaxList, 3*api.MaxList), size)
		checkHistogram(t, someRefs(seed, api.MaxList+1, 100), size)
	}
}

// Each distance is counted once.
func TestHistogramsComeToAllReferences(t *testing.T) {
	for seed := range 300 {
		refs := someRefs(seed, 100+seed, 1+seed%60)
		counts, rest, e := sample.Histogram(sample.Distances(refs), seed%64)
		all := rest
		for _, n := range counts {
			all += n
		}
		if all != len(refs) || e != api.OK {
			t.Errorf("seed %d: %d of %d references, %d", seed, all, len(refs), e)
		}
	}
}

// R4 and R5

func TestListsAreLeft(t *testing.T) {
	room := someRefs(1, 100, 9)
	before := slices.Clone(room)
	for range 2 {
		wantDistances(t, room[20:60], distancesAsSaid(before[20:60])...)
		checkHistogram(t, room[20:60], 3)
		sample.Histogram(room[20:60], -1)
		if !slices.Equal(room, before) {
			t.Error("the list, or what stands around it, was changed")
		}
	}
}

func TestAnswersAreNew(t *testing.T) {
	refs := []int{5, 6, 5, 5, 7, 6}
	distances := sample.Distances(refs)
	counts, _, _ := sample.Histogram(distances, 3)
	for _, answer := range [][]int{distances, counts} {
		answer = answer[:cap(answer)]
		for i := range answer {
			answer[i] = -7
		}
	}
	wantDistances(t, refs, -1, -1, 1, 0, -1, 2)
	wantHistogram(t, []int{-1, -1, 1, 0, -1, 2}, 3, []int{1, 1, 1}, 3)
}

func FuzzSamplesAgree(f *testing.F) {
	f.Add(0, 0, 0, 0, []byte{})
	f.Add(3, 31, 16717779, 3, []byte{5, 6, 5, 5, 7, 6})
	f.Add(-1, math.MinInt, -1, -1, []byte{0, 0, 255, 0, 255})
	f.Add(1, 1<<32, api.MaxHash, api.MaxList, binary.BigEndian.AppendUint64(nil, math.MaxUint64))
	f.Fuzz(func(t *testing.T, volume, block, of, size int, b []byte) {
		checkHash(t, volume, block, of)
		refs := make([]int, len(b))
		for i, c := range b {
			refs[i] = int(int8(c))
		}
		wantDistances(t, refs, distancesAsSaid(refs)...)
		checkHistogram(t, refs, size)
		checkHistogram(t, distancesAsSaid(refs), size)
	})
}
