package pack_test

import (
	"bytes"
	"math"
	"slices"
	"testing"

	"stowage/api"
	"stowage/pack"
)

// badSizes: all of them are below 1 or above 8; some come to a sound size if they wrap round.
var badSizes = []int{0, -1, -8, 9, 10, 64, 256 + 1, 1<<32 + 1, math.MinInt + 1, math.MinInt, math.MaxInt}

// same: of n sizes each is the same.
func same(n, size int) []int { return slices.Repeat([]int{size}, n) }

// greatest: the greatest number of so many bytes, reckoned without a shift by 64.
func greatest(size int) uint64 { return math.MaxUint64 >> (64 - 8*size) }

func wantBytes(t *testing.T, what string, b []byte, e api.Errno, want []byte, wantE api.Errno) {
	t.Helper()
	if e != wantE || !bytes.Equal(b, want) {
		t.Errorf("%s: %v, error %d; want %v, error %d", what, b, e, want, wantE)
	}
}

func wantNumber(t *testing.T, what string, n uint64, e api.Errno, want uint64, wantE api.Errno) {
	t.Helper()
	if e != wantE || n != want {
		t.Errorf("%s: %#x, error %d; want %#x, error %d", what, n, e, want, wantE)
	}
}

func wantList(t *testing.T, what string, list []uint64, e api.Errno, want []uint64, wantE api.Errno) {
	t.Helper()
	if e != wantE || !slices.Equal(list, want) {
		t.Errorf("%s: %v, error %d; want %v, error %d", what, list, e, want, wantE)
	}
}

// P1.1

func TestPut(t *testing.T) {
	for _, c := range []struct {
		n    uint64
		size int
		want []byte
	}{
		{0, 1, []byte{0}},
		{7, 1, []byte{7}},
		{255, 1, []byte{255}},
		{255, 2, []byte{0, 255}},
		{0x0102, 2, []byte{1, 2}},
		{0x0102, 3, []byte{0, 1, 2}},
		{0x01020304, 4, []byte{1, 2, 3, 4}},
		{0x0102030405060708, 8, []byte{1, 2, 3, 4, 5, 6, 7, 8}},
		{0, 8, make([]byte, 8)},
		{1 << 63, 8, []byte{128, 0, 0, 0, 0, 0, 0, 0}},
		{math.MaxUint64, 8, bytes.Repeat([]byte{255}, 8)},
	} {
		b, e := pack.Put(c.n, c.size)
		wantBytes(t, "Put", b, e, c.want, api.OK)
	}
}

func TestPutAtTheEndsOfEachSize(t *testing.T) {
	for size := 1; size <= 8; size++ {
		b, e := pack.Put(greatest(size), size)
		wantBytes(t, "greatest", b, e, bytes.Repeat([]byte{255}, size), api.OK)
		if size == 8 {
			continue
		}
		b, e = pack.Put(greatest(size)+1, size)
		wantBytes(t, "greatest and 1", b, e, nil, api.ErrRange)
		b, e = pack.Put(math.MaxUint64, size)
		wantBytes(t, "greatest of all", b, e, nil, api.ErrRange)
		b, e = pack.Put(1<<63, size)
		wantBytes(t, "only the first bit", b, e, nil, api.ErrRange)
	}
}

func TestPutOfBadSizes(t *testing.T) {
	for _, size := range badSizes {
		for _, n := range []uint64{0, 1, math.MaxUint64} {
			b, e := pack.Put(n, size)
			wantBytes(t, "Put", b, e, nil, api.ErrArg)
		}
	}
}

// P1.2

func TestGet(t *testing.T) {
	b := []byte{0, 1, 2, 3, 4, 5, 6, 7, 8}
	for i, want := range []uint64{0, 1, 0x0102, 0x010203, 0x01020304, 0x0102030405, 0x010203040506, 0x01020304050607} {
		n, e := pack.Get(b, i+1)
		wantNumber(t, "first bytes", n, e, want, api.OK)
	}
	n, e := pack.Get(b[1:], 8)
	wantNumber(t, "eight bytes", n, e, 0x0102030405060708, api.OK)
	n, e = pack.Get(bytes.Repeat([]byte{255}, 9), 8)
	wantNumber(t, "greatest of all", n, e, math.MaxUint64, api.OK)
	n, e = pack.Get([]byte{128}, 1)
	wantNumber(t, "byte with its first bit", n, e, 128, api.OK)
}

func TestGetOfTooFewBytes(t *testing.T) {
	// The spare room behind the bytes must not count as theirs.
	b := bytes.Repeat([]byte{9}, 16)
	for size := 1; size <= 8; size++ {
		for have := range size {
			n, e := pack.Get(b[:have], size)
			wantNumber(t, "too few", n, e, 0, api.ErrShort)
		}
		n, e := pack.Get(b[:size], size)
		wantNumber(t, "just enough", n, e, 0x0909090909090909>>(64-8*size), api.OK)
		n, e = pack.Get(nil, size)
		wantNumber(t, "nil", n, e, 0, api.ErrShort)
	}
}

func TestGetOfBadSizes(t *testing.T) {
	for _, size := range badSizes {
		for _, b := range [][]byte{nil, {}, {1}, bytes.Repeat([]byte{1}, 300)} {
			n, e := pack.Get(b, size)
			wantNumber(t, "Get", n, e, 0, api.ErrArg)
		}
	}
}

func TestGetUndoesPut(t *testing.T) {
	for size := 1; size <= 8; size++ {
		for _, n := range []uint64{0, 1, greatest(size) / 3, greatest(size) - 1, greatest(size)} {
			b, e := pack.Put(n, size)
			if e != api.OK {
				t.Fatalf("Put(%#x, %d): error %d", n, size, e)
			}
			back, e := pack.Get(b, size)
			wantNumber(t, "back", back, e, n, api.OK)
		}
	}
}

// P1.3

func TestFields(t *testing.T) {
	for _, c := range []struct {
		list  []uint64
		sizes []int
		want  []byte
	}{
		{nil, nil, nil},
		{[]uint64{}, []int{}, nil},
		{[]uint64{5}, []int{1}, []byte{5}},
		{[]uint64{5, 6}, []int{1, 1}, []byte{5, 6}},
		{[]uint64{5, 6}, []int{3, 2}, []byte{0, 0, 5, 0, 6}},
		{[]uint64{0x0102, 0, 0x030405}, []int{2, 1, 4}, []byte{1, 2, 0, 0, 3, 4, 5}},
		{[]uint64{math.MaxUint64, 255}, []int{8, 1}, bytes.Repeat([]byte{255}, 9)},
		{[]uint64{1, 2, 3, 4, 5, 6, 7, 8}, []int{1, 2, 3, 4, 5, 6, 7, 8},
			[]byte{1, 0, 2, 0, 0, 3, 0, 0, 0, 4, 0, 0, 0, 0, 5, 0, 0, 0, 0, 0, 6, 0, 0, 0, 0, 0, 0, 7, 0, 0, 0, 0, 0, 0, 0, 8}},
	} {
		b, e := pack.Fields(c.list, c.sizes...)
		wantBytes(t, "Fields", b, e, c.want, api.OK)
		list, e := pack.Split(c.want, c.sizes...)
		wantList(t, "Split", list, e, c.list, api.OK)
	}
}

func TestFieldsErrors(t *testing.T) {
	for i, c := range []struct {
		list  []uint64
		sizes []int
		want  api.Errno
	}{
		{[]uint64{1}, nil, api.ErrArg},
		{nil, []int{1}, api.ErrArg},
		{[]uint64{1, 2}, []int{1}, api.ErrArg},
		{[]uint64{1}, []int{1, 1}, api.ErrArg},
		{[]uint64{256}, []int{1}, api.ErrRange},
		{[]uint64{255, 256}, []int{1, 1}, api.ErrRange},
		{[]uint64{256, 256}, []int{2, 1}, api.ErrRange},
		{[]uint64{math.MaxUint64, math.MaxUint64}, []int{8, 7}, api.ErrRange},
		// ErrArg goes ahead, wherever the number stands that does not fit.
		{[]uint64{256, 1}, []int{1, 9}, api.ErrArg},
		{[]uint64{256, 1}, []int{1, 0}, api.ErrArg},
		{[]uint64{1, 256}, []int{0, 1}, api.ErrArg},
		{[]uint64{256}, []int{1, 1}, api.ErrArg},
		{[]uint64{256, 1}, []int{1}, api.ErrArg},
	} {
		b, e := pack.Fields(c.list, c.sizes...)
		if e != c.want || len(b) != 0 {
			t.Errorf("%d: %v, error %d; want error %d", i, b, e, c.want)
		}
	}
}

func TestSplitErrors(t *testing.T) {
	b := bytes.Repeat([]byte{7}, 40)
	for i, c := range []struct {
		have  int
		sizes []int
		want  api.Errno
	}{
		{0, nil, api.OK},
		{1, nil, api.ErrForm},
		{0, []int{1}, api.ErrShort},
		{1, []int{1}, api.OK},
		{2, []int{1}, api.ErrForm},
		{11, []int{4, 8}, api.ErrShort},
		{12, []int{4, 8}, api.OK},
		{13, []int{4, 8}, api.ErrForm},
		{4, []int{4, 8}, api.ErrShort},
		{3, []int{4, 8}, api.ErrShort},
		{35, []int{1, 2, 3, 4, 5, 6, 7, 8}, api.ErrShort},
		{36, []int{1, 2, 3, 4, 5, 6, 7, 8}, api.OK},
		{37, []int{1, 2, 3, 4, 5, 6, 7, 8}, api.ErrForm},
		// ErrArg goes ahead of too few and of too many bytes.
		{0, []int{0}, api.ErrArg},
		{0, []int{8, 0}, api.ErrArg},
		{40, []int{1, 9}, api.ErrArg},
		{9, []int{9}, api.ErrArg},
		{1, []int{2, -1}, api.ErrArg},
	} {
		list, e := pack.Split(b[:c.have:40], c.sizes...)
		if e != c.want || e != api.OK && len(list) != 0 || e == api.OK && len(list) != len(c.sizes) {
			t.Errorf("%d: %v, error %d; want error %d", i, list, e, c.want)
		}
	}
	list, e := pack.Split(nil)
	wantList(t, "nothing", list, e, nil, api.OK)
	list, e = pack.Split(nil, 3)
	wantList(t, "nil", list, e, nil, api.ErrShort)
}

func TestFieldsAndSplitOfBadSizes(t *testing.T) {
	for _, size := range badSizes {
		for place := range 3 {
			sizes := []int{1, 1, 1}
			sizes[place] = size
			b, e := pack.Fields([]uint64{1, 2, 3}, sizes...)
			wantBytes(t, "Fields", b, e, nil, api.ErrArg)
			for have := range 5 {
				list, e := pack.Split(make([]byte, have), sizes...)
				wantList(t, "Split", list, e, nil, api.ErrArg)
			}
		}
	}
}

func TestMaxList(t *testing.T) {
	for _, size := range []int{1, 8} {
		list := make([]uint64, api.MaxList)
		for i := range list {
			list[i] = uint64(i) & greatest(size)
		}
		sizes := same(api.MaxList, size)
		b, e := pack.Fields(list, sizes...)
		if e != api.OK || len(b) != size*api.MaxList {
			t.Fatalf("Fields of MaxList: %d bytes, error %d", len(b), e)
		}
		back, e := pack.Split(b, sizes...)
		if e != api.OK || !slices.Equal(back, list) {
			t.Errorf("Split of MaxList: error %d, or other numbers", e)
		}
	}
}

func TestMoreThanMaxList(t *testing.T) {
	for _, n := range []int{api.MaxList + 1, 2 * api.MaxList} {
		b, e := pack.Fields(make([]uint64, n), same(n, 1)...)
		wantBytes(t, "Fields", b, e, nil, api.ErrArg)
		// Too many numbers go ahead of one that does not fit.
		b, e = pack.Fields(slices.Repeat([]uint64{256}, n), same(n, 1)...)
		wantBytes(t, "Fields", b, e, nil, api.ErrArg)
		for _, have := range []int{0, n - 1, n, n + 1} {
			list, e := pack.Split(make([]byte, have), same(n, 1)...)
			wantList(t, "Split", list, e, nil, api.ErrArg)
		}
	}
	b, e := pack.Fields(make([]uint64, api.MaxList+1), same(api.MaxList, 1)...)
	wantBytes(t, "one number too many", b, e, nil, api.ErrArg)
	b, e = pack.Fields(make([]uint64, api.MaxList), same(api.MaxList+1, 1)...)
	wantBytes(t, "one size too many", b, e, nil, api.ErrArg)
}

// R4 and R5

// TestNothingHandedInIsChanged: neither what is handed in, nor its spare room.
func TestNothingHandedInIsChanged(t *testing.T) {
	room, numbers, sizes := make([]byte, 32), make([]uint64, 8), make([]int, 8)
	for i := range room {
		room[i] = byte(i + 1)
	}
	for i := range numbers {
		numbers[i], sizes[i] = uint64(i+1), i%8+1
	}
	wasRoom, wasNumbers, wasSizes := bytes.Clone(room), slices.Clone(numbers), slices.Clone(sizes)
	pack.Get(room[:3], 2)
	pack.Fields(numbers[:3], sizes[:3]...)
	pack.Fields(numbers[:3], sizes[:2]...)
	pack.Split(room[:6], sizes[:3]...)
	pack.Split(room[:5], sizes[:3]...)
	if !bytes.Equal(room, wasRoom) || !slices.Equal(numbers, wasNumbers) || !slices.Equal(sizes, wasSizes) {
		t.Error("what was handed in has changed")
	}
}

// TestAnswersAreNewMemory: what is done to an answer, or to what was handed in, is not seen in another answer.
func TestAnswersAreNewMemory(t *testing.T) {
	list, sizes := []uint64{1, 2}, []int{1, 2}
	spoil := func(b []byte) {
		b = b[:cap(b)]
		for i := range b {
			b[i] = 99
		}
	}
	one, _ := pack.Fields(list, sizes...)
	two, _ := pack.Fields(list, sizes...)
	list[0], sizes[0] = 77, 5
	spoil(one)
	if !bytes.Equal(two, []byte{1, 0, 2}) {
		t.Errorf("Fields: %v", two)
	}
	one, _ = pack.Put(5, 2)
	two, _ = pack.Put(5, 2)
	spoil(one)
	if !bytes.Equal(two, []byte{0, 5}) {
		t.Errorf("Put: %v", two)
	}
	b := []byte{1, 0, 2}
	first, _ := pack.Split(b, 1, 2)
	second, _ := pack.Split(b, 1, 2)
	spoil(b)
	for i := range first[:cap(first)] {
		first[:cap(first)][i] = 99
	}
	if !slices.Equal(second, []uint64{1, 2}) {
		t.Errorf("Split: %v", second)
	}
}

// FuzzSplitUndoesFields: whatever sizes there are, Split's numbers are Fields's bytes again, and the other way round.
func FuzzSplitUndoesFields(f *testing.F) {
	f.Add([]byte{}, []byte{})
	f.Add([]byte{1, 2, 3}, []byte{1, 2})
	f.Add([]byte{1, 2, 3, 4, 5, 6, 7, 8, 9}, []byte{8, 1})
	f.Add([]byte{1}, []byte{9})
	f.Fuzz(func(t *testing.T, b, sizeBytes []byte) {
		sizes := make([]int, len(sizeBytes))
		total, good := 0, len(sizes) <= api.MaxList
		for i, s := range sizeBytes {
			sizes[i] = int(int8(s))
			total += sizes[i]
			good = good && 1 <= sizes[i] && sizes[i] <= 8
		}
		want := api.OK
		switch {
		case !good:
			want = api.ErrArg
		case len(b) < total:
			want = api.ErrShort
		case len(b) > total:
			want = api.ErrForm
		}
		list, e := pack.Split(b, sizes...)
		if e != want {
			t.Fatalf("Split: error %d, want %d", e, want)
		}
		if e != api.OK {
			return
		}
		back, e := pack.Fields(list, sizes...)
		wantBytes(t, "back", back, e, b, api.OK)
	})
}
