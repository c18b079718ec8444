package crc_test

import (
	"bytes"
	"hash/crc32"
	"math"
	"math/rand"
	"testing"

	"stowage/crc"
)

// period: after so many bytes 0 each register is again what it was, since x is of order 2^32 - 1 by the sum's polynomial, to which 8 is prime.
const period = 1<<32 - 1

// registers: sums, of which the ends make registers of no bit and of all bits.
var registers = []uint32{0, 1, 5, 0x80000000, 0x7FFFFFFF, 0xCBF43926, 0xEDB88320, 0xDEADBEEF, 0xFFFFFFFE, 0xFFFFFFFF}

// wordForWord: More as the document says it, bit by bit.
func wordForWord(sum uint32, b []byte) uint32 {
	register := ^sum
	for _, x := range b {
		register ^= uint32(x)
		for i := 0; i < 8; i++ {
			if register&1 == 1 {
				register = register>>1 ^ 0xEDB88320
			} else {
				register >>= 1
			}
		}
	}
	return ^register
}

// somehow: n bytes of any kind, the same in each run.
func somehow(n int) []byte {
	b := make([]byte, n)
	rand.New(rand.NewSource(int64(n))).Read(b)
	return b
}

func want(t *testing.T, what string, got, want uint32) {
	t.Helper()
	if got != want {
		t.Errorf("%s: %#08x, want %#08x", what, got, want)
	}
}

// P2.1

func TestSumOfKnownTexts(t *testing.T) {
	for text, sum := range map[string]uint32{
		"":                 0,
		"a":                0xE8B7BE43,
		"abc":              0x352441C2,
		"123456789":        0xCBF43926,
		"\x00":             0xD202EF8D,
		"\x00\x00\x00\x00": 0x2144DF1C,
		"\xFF\xFF\xFF\xFF": 0xFFFFFFFF,
		"The quick brown fox jumps over the lazy dog": 0x414FA339,
	} {
		want(t, "Sum of "+text, crc.Sum([]byte(text)), sum)
	}
	want(t, "Sum of nil", crc.Sum(nil), 0)
}

func TestSumOfEachByte(t *testing.T) {
	for x := range 256 {
		b := []byte{byte(x)}
		want(t, "Sum of one byte", crc.Sum(b), wordForWord(0, b))
		b = []byte{byte(x), 0, byte(255 - x)}
		want(t, "Sum of three bytes", crc.Sum(b), wordForWord(0, b))
	}
}

func TestSumOfEachLength(t *testing.T) {
	for n := range 300 {
		b := somehow(n)
		want(t, "Sum", crc.Sum(b), crc32.ChecksumIEEE(b))
		want(t, "Sum of bytes 0", crc.Sum(make([]byte, n)), crc32.ChecksumIEEE(make([]byte, n)))
		ones := bytes.Repeat([]byte{255}, n)
		want(t, "Sum of bytes 255", crc.Sum(ones), crc32.ChecksumIEEE(ones))
	}
	b := somehow(1<<20 + 3)
	want(t, "Sum of a long text", crc.Sum(b), crc32.ChecksumIEEE(b))
}

func TestMoreBeginsWithAnySum(t *testing.T) {
	for _, sum := range registers {
		want(t, "More of nil", crc.More(sum, nil), sum)
		want(t, "More of nothing", crc.More(sum, []byte{}), sum)
		for x := range 256 {
			b := []byte{byte(x)}
			want(t, "More of one byte", crc.More(sum, b), wordForWord(sum, b))
		}
		for n := range 70 {
			b := somehow(n)
			want(t, "More", crc.More(sum, b), wordForWord(sum, b))
			want(t, "More", crc.More(sum, b), crc32.Update(sum, crc32.IEEETable, b))
		}
	}
}

func TestMoreGoesOnWhereverATextIsParted(t *testing.T) {
	text := somehow(131)
	for i := range len(text) + 1 {
		want(t, "More", crc.More(crc.Sum(text[:i]), text[i:]), crc.Sum(text))
	}
}

func TestSumLeavesTheBytes(t *testing.T) {
	room := somehow(100)
	kept := bytes.Clone(room)
	crc.Sum(room[10:20])
	crc.More(7, room[10:20])
	if !bytes.Equal(room, kept) {
		t.Error("the bytes or what stands around them were changed")
	}
}

// P2.2

func TestZerosAreMoreOfBytes0(t *testing.T) {
	for _, sum := range registers {
		for n := range 300 {
			want(t, "Zeros", crc.Zeros(sum, n), wordForWord(sum, make([]byte, n)))
		}
		for _, n := range []int{1 << 10, 1<<10 + 1, 1<<16 - 1, 1 << 16, 1<<20 + 77} {
			want(t, "Zeros", crc.Zeros(sum, n), crc32.Update(sum, crc32.IEEETable, make([]byte, n)))
		}
	}
}

func TestZerosBelow0CountAs0(t *testing.T) {
	for _, sum := range registers {
		for _, n := range []int{0, -1, -2, -3, -1 << 32, -period, math.MinInt + 1, math.MinInt} {
			want(t, "Zeros", crc.Zeros(sum, n), sum)
			want(t, "Join", crc.Join(sum, 9, n), sum^9)
		}
	}
}

func TestZerosOfGreatNumbers(t *testing.T) {
	for _, sum := range registers {
		for _, c := range []struct{ great, small int }{
			{period, 0},
			{period + 1, 1},
			{period + 100, 100},
			{1 << 32, 1},
			{1 << 52, 1 << 20},
			{5*period + 1000, 1000},
			{1 << 40, 1 << 8},
			{1<<31*period + 70000, 70000},
		} {
			want(t, "Zeros", crc.Zeros(sum, c.great), wordForWord(sum, make([]byte, c.small)))
		}
		want(t, "Zeros of the greatest number", crc.Zeros(sum, math.MaxInt), crc.Zeros(sum, math.MaxInt%period))
		want(t, "Zeros of the greatest number", crc.Zeros(crc.Zeros(sum, math.MaxInt), period-math.MaxInt%period), sum)
		want(t, "Zeros of the greatest power", crc.Zeros(sum, 1<<62), crc.Zeros(sum, 1<<30))
		want(t, "Zeros and again Zeros", crc.Zeros(crc.Zeros(sum, 1<<40), 1<<41), crc.Zeros(sum, 3<<40))
	}
}

func TestJoinIsAsItIsSaid(t *testing.T) {
	for _, a := range registers {
		for _, b := range registers {
			for _, n := range []int{math.MinInt, -1, 0, 1, 2, 64, 1000} {
				zeros := make([]byte, max(n, 0))
				want(t, "Join", crc.Join(a, b, n), wordForWord(a, zeros)^wordForWord(0, zeros)^b)
			}
			want(t, "Join of the greatest number", crc.Join(a, b, math.MaxInt), crc.Zeros(a, math.MaxInt)^crc.Zeros(0, math.MaxInt)^b)
		}
	}
}

func TestJoinOfTwoTexts(t *testing.T) {
	text := somehow(131)
	for i := range len(text) + 1 {
		want(t, "Join", crc.Join(crc.Sum(text[:i]), crc.Sum(text[i:]), len(text)-i), crc32.ChecksumIEEE(text))
	}
	want(t, "Join with nothing behind", crc.Join(0xCBF43926, 0, 0), 0xCBF43926)
	want(t, "Join with nothing ahead", crc.Join(0, 0xCBF43926, 9), 0xCBF43926)
}

func TestJoinOfLongTexts(t *testing.T) {
	a, b := somehow(1<<17+1), somehow(1<<20+3)
	want(t, "Join", crc.Join(crc.Sum(a), crc.Sum(b), len(b)), crc32.ChecksumIEEE(append(a, b...)))
}

func TestAnswersHangOnArgumentsAlone(t *testing.T) {
	text := somehow(64)
	for range 3 {
		want(t, "Sum", crc.Sum(text), crc32.ChecksumIEEE(text))
		want(t, "Zeros", crc.Zeros(5, 17), wordForWord(5, make([]byte, 17)))
	}
}

func FuzzSumsAgree(f *testing.F) {
	f.Add(uint32(0), []byte("123456789"), 4)
	f.Add(uint32(0xFFFFFFFF), []byte{}, 0)
	f.Fuzz(func(t *testing.T, sum uint32, b []byte, at int) {
		want(t, "More", crc.More(sum, b), wordForWord(sum, b))
		at = min(max(at, 0), len(b))
		want(t, "Join", crc.Join(crc.More(sum, b[:at]), crc.Sum(b[at:]), len(b)-at), crc.More(sum, b))
		want(t, "Zeros", crc.Zeros(sum, at), wordForWord(sum, make([]byte, at)))
	})
}
