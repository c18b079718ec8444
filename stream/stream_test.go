package stream_test

import (
	"bytes"
	knownaes "crypto/aes"
	"crypto/cipher"
	"encoding/hex"
	"math"
	"math/big"
	"math/rand"
	"testing"

	"stowage/aes"
	"stowage/api"
	"stowage/stream"
)

// somehow: n bytes of any kind, the same in each run with one seed.
func somehow(seed, n int) []byte {
	b := make([]byte, n)
	rand.New(rand.NewSource(int64(seed))).Read(b)
	return b
}

// unhex: bytes of their digits.
func unhex(t *testing.T, digits string) []byte {
	t.Helper()
	b, err := hex.DecodeString(digits)
	if err != nil {
		t.Fatal(err)
	}
	return b
}

// wordForWord: a text enciphered as the document says it, with the counter as one number.
func wordForWord(t *testing.T, key, counter, text []byte) []byte {
	t.Helper()
	c, e := aes.New(key)
	if e != api.OK {
		t.Fatalf("New(%x): %d", key, e)
	}
	modulus := new(big.Int).Lsh(big.NewInt(1), 128)
	n := new(big.Int).SetBytes(counter)
	out := bytes.Clone(text)
	for i := range out {
		at := new(big.Int).Add(n, big.NewInt(int64(i/16)))
		block, e := c.Block(at.Mod(at, modulus).FillBytes(make([]byte, 16)))
		if e != api.OK {
			t.Fatalf("Block: %d", e)
		}
		out[i] ^= block[i%16]
	}
	return out
}

// library: a text enciphered as Go's library does it.
func library(t *testing.T, key, counter, text []byte) []byte {
	t.Helper()
	c, err := knownaes.NewCipher(key)
	if err != nil {
		t.Fatal(err)
	}
	out := make([]byte, len(text))
	cipher.NewCTR(c, counter).XORKeyStream(out, text)
	return out
}

// check: a text is enciphered as wanted, and applying again undoes that.
func check(t *testing.T, key, counter, text, want []byte) {
	t.Helper()
	if got, e := stream.Apply(key, counter, text); !bytes.Equal(got, want) || e != api.OK {
		t.Errorf("Apply(%x, %x, %d bytes) = %x, %d, want %x", key, counter, len(text), got, e, want)
	}
	if got, e := stream.Apply(key, counter, want); !bytes.Equal(got, text) || e != api.OK {
		t.Errorf("Apply again(%x, %x, %d bytes) = %x, %d, want %x", key, counter, len(text), got, e, text)
	}
}

// refused: Apply answers this error, and nothing beside it.
func refused(t *testing.T, key, counter, text []byte, want api.Errno) {
	t.Helper()
	if got, e := stream.Apply(key, counter, text); got != nil || e != want {
		t.Errorf("Apply of %d, %d and %d bytes: %d bytes, %d, want %d", len(key), len(counter), len(text), len(got), e, want)
	}
}

// P6.1

func TestKnownTexts(t *testing.T) {
	key := unhex(t, "2b7e151628aed2a6abf7158809cf4f3c")
	counter := unhex(t, "f0f1f2f3f4f5f6f7f8f9fafbfcfdfeff")
	text := unhex(t, "6bc1bee22e409f96e93d7e117393172aae2d8a571e03ac9c9eb76fac45af8e5130c81c46a35ce411e5fbc1191a0a52eff69f2445df4f9b17ad2b417be66c3710")
	want := unhex(t, "874d6191b620e3261bef6864990db6ce9806f66b7970fdff8617187bb9fffdff5ae4df3edbd5d35e5b4f09020db03eab1e031dda2fbe03d1792170a0f3009cee")
	for n := range len(text) + 1 {
		check(t, key, counter, text[:n], want[:n])
	}
	none := make([]byte, 16)
	check(t, none, none, none, unhex(t, "66e94bd4ef8a2c3b884cfa59ca342b2e"))
}

func TestTheStreamIsEncipheredCounters(t *testing.T) {
	key := somehow(1, 16)
	c, e := aes.New(key)
	if e != api.OK {
		t.Fatalf("New: %d", e)
	}
	var want []byte
	for n := range 300 {
		block, _ := c.Block([]byte{7, 0, 0, 0, 0, 0, 0, 0, 0, 0, 0, 0, 0, 0, byte(n / 256), byte(n)})
		want = append(want, block...)
	}
	check(t, key, append([]byte{7}, make([]byte, 15)...), make([]byte, len(want)), want)
}

func TestTextsOfEachLength(t *testing.T) {
	for n := range 200 {
		key, counter, text := somehow(n, 16), somehow(n+1000, 16), somehow(n+2000, n)
		check(t, key, counter, text, library(t, key, counter, text))
		check(t, key, counter, text, wordForWord(t, key, counter, text))
	}
}

func TestTheStreamHangsOnNoText(t *testing.T) {
	key, counter, text := somehow(1, 16), somehow(2, 16), somehow(3, 100)
	zeros, _ := stream.Apply(key, counter, make([]byte, 100))
	for i := range text {
		text[i] ^= zeros[i]
	}
	check(t, key, counter, text, somehow(3, 100))
}

func TestEachByteCounts(t *testing.T) {
	key, counter, text := somehow(1, 16), somehow(2, 16), somehow(3, 40)
	before, _ := stream.Apply(key, counter, text)
	for _, changed := range [][]byte{key, counter} {
		for i := range changed {
			changed[i] ^= 1
			check(t, key, counter, text, wordForWord(t, key, counter, text))
			if got, _ := stream.Apply(key, counter, text); bytes.Equal(got, before) {
				t.Errorf("byte %d does not count", i)
			}
			changed[i] ^= 1
		}
	}
}

// A counter that ends in 255s carries over into each byte ahead, and behind the greatest one stands 0.
func TestCountersCarryOver(t *testing.T) {
	key, text := somehow(1, 16), somehow(2, 16*5+3)
	for full := range 17 {
		for _, last := range []byte{253, 254, 255} {
			for _, ahead := range []byte{0, 0x7F, 0x80, 0xFE} {
				counter := bytes.Repeat([]byte{ahead}, 16)
				for i := 16 - full; i < 16; i++ {
					counter[i] = 255
				}
				counter[15] = last
				check(t, key, counter, text, wordForWord(t, key, counter, text))
				check(t, key, counter, text, library(t, key, counter, text))
			}
		}
	}
}

func TestBehindTheGreatestCounterStands0(t *testing.T) {
	key, none := somehow(1, 16), make([]byte, 48)
	greatest := bytes.Repeat([]byte{255}, 16)
	long, _ := stream.Apply(key, greatest, none)
	start, _ := stream.Apply(key, make([]byte, 16), none)
	if len(long) != 48 || !bytes.Equal(long[16:], start[:32]) {
		t.Errorf("behind the greatest counter: %x, want %x", long, start)
	}
}

func TestATextMayBeAppliedInPieces(t *testing.T) {
	key, counter, text := somehow(1, 16), bytes.Repeat([]byte{255}, 16), somehow(2, 100)
	whole, _ := stream.Apply(key, counter, text)
	for blocks := 1; blocks < 7; blocks++ {
		later := make([]byte, 16)
		later[15] = byte(blocks - 1)
		check(t, key, later, text[16*blocks:], whole[16*blocks:])
	}
}

func TestLongTexts(t *testing.T) {
	for _, n := range []int{4095, 4096, 1<<19 + 5, api.MaxStream - 17, api.MaxStream - 16, api.MaxStream - 15, api.MaxStream - 1, api.MaxStream} {
		key, counter, text := somehow(n, 16), bytes.Repeat([]byte{255}, 16), somehow(n+1, n)
		counter[13] = 0xF0
		got, e := stream.Apply(key, counter, text)
		if e != api.OK || !bytes.Equal(got, library(t, key, counter, text)) {
			t.Errorf("Apply of %d bytes: %d bytes, %d", n, len(got), e)
		}
		if back, e := stream.Apply(key, counter, got); e != api.OK || !bytes.Equal(back, text) {
			t.Errorf("Apply again of %d bytes: %d bytes, %d", n, len(back), e)
		}
	}
}

func TestEmptyTexts(t *testing.T) {
	for _, text := range [][]byte{nil, {}, make([]byte, 0, 16)} {
		check(t, make([]byte, 16), make([]byte, 16), text, nil)
	}
}

func TestKeysAndCountersOf16Bytes(t *testing.T) {
	texts := [][]byte{nil, make([]byte, 1), make([]byte, 16), make([]byte, 100)}
	for n := range 100 {
		for _, text := range texts {
			other, right := make([]byte, n, n+16), make([]byte, 16)
			if n == 16 {
				check(t, other, right, text, library(t, right, right, text))
				continue
			}
			refused(t, other, right, text, api.ErrArg)
			refused(t, right, other, text, api.ErrArg)
			refused(t, other, other, text, api.ErrArg)
		}
	}
	for _, other := range [][]byte{nil, make([]byte, 0, 16), make([]byte, 15, 16), make([]byte, 1<<20)} {
		refused(t, other, make([]byte, 16), []byte{1}, api.ErrArg)
		refused(t, make([]byte, 16), other, []byte{1}, api.ErrArg)
		refused(t, other, other, nil, api.ErrArg)
	}
}

func TestTextsThatAreTooLong(t *testing.T) {
	right := make([]byte, 16)
	for _, n := range []int{api.MaxStream + 1, api.MaxStream + 16, 2 * api.MaxStream, 1 << 26} {
		text := make([]byte, n)
		refused(t, right, right, text, api.ErrRange)
		refused(t, right[:15], right, text, api.ErrArg)
		refused(t, right, right[:15], text, api.ErrArg)
		refused(t, nil, nil, text, api.ErrArg)
	}
	check(t, right, right, make([]byte, 1, api.MaxStream+1), []byte{0x66})
}

// P6.2

func TestCounter(t *testing.T) {
	for _, c := range []struct {
		slot, version int
		want          string
	}{
		{0, 0, "00000000000000000000000000000000"},
		{1, 0, "00000001000000000000000000000000"},
		{0, 1, "00000000000000000000000100000000"},
		{258, 1<<40 + 5, "00000102000001000000000500000000"},
		{0x01020304, 0x05060708090A0B0C, "0102030405060708090a0b0c00000000"},
		{1<<32 - 1, math.MaxInt, "ffffffff7fffffffffffffff00000000"},
		{1 << 32, 1 << 32, "00000000000000010000000000000000"},
		{1<<32 + 7, 1<<32 - 1, "0000000700000000ffffffff00000000"},
		{1 << 31, 1 << 62, "80000000400000000000000000000000"},
		{-1, -1, "ffffffffffffffffffffffff00000000"},
		{-2, -256, "fffffffeffffffffffffff0000000000"},
		{-1 << 32, 3, "00000000000000000000000300000000"},
		{-1<<32 - 1, 3, "ffffffff000000000000000300000000"},
		{-1 << 31, math.MinInt, "80000000800000000000000000000000"},
		{math.MaxInt, math.MinInt + 1, "ffffffff800000000000000100000000"},
		{math.MinInt, 0, "00000000000000000000000000000000"},
	} {
		if got := hex.EncodeToString(stream.Counter(c.slot, c.version)); got != c.want {
			t.Errorf("Counter(%d, %d) = %s, want %s", c.slot, c.version, got, c.want)
		}
	}
}

// modulo: a number's remainder from 0 on, as so many bytes.
func modulo(n, size int) []byte {
	modulus := new(big.Int).Lsh(big.NewInt(1), uint(8*size))
	return new(big.Int).Mod(big.NewInt(int64(n)), modulus).FillBytes(make([]byte, size))
}

func TestCounterIsAsItIsSaid(t *testing.T) {
	numbers := []int{0, 1, -1, 63, 64, 1<<32 - 1, 1 << 32, -1 << 32, math.MaxInt, math.MinInt}
	for seed := range 20 {
		numbers = append(numbers, int(rand.New(rand.NewSource(int64(seed))).Uint64()))
	}
	for _, slot := range numbers {
		for _, version := range numbers {
			want := bytes.Join([][]byte{modulo(slot, 4), modulo(version, 8), make([]byte, 4)}, nil)
			if got := stream.Counter(slot, version); !bytes.Equal(got, want) {
				t.Errorf("Counter(%d, %d) = %x, want %x", slot, version, got, want)
			}
		}
	}
}

func TestCountersAreTaken(t *testing.T) {
	key, text := somehow(1, 16), somehow(2, api.Sector)
	var seen [][]byte
	for slot := range 3 {
		for version := range 3 {
			counter := stream.Counter(slot, version)
			check(t, key, counter, text, library(t, key, counter, text))
			out, _ := stream.Apply(key, counter, make([]byte, api.Sector))
			for _, other := range seen {
				if bytes.Equal(out[:16], other[:16]) {
					t.Errorf("slot %d, version %d: this stream was there already", slot, version)
				}
			}
			seen = append(seen, out)
		}
	}
}

// R4, R5

func TestWhatIsHandedInIsLeft(t *testing.T) {
	for _, n := range []int{0, 1, 15, 16, 17, 64, 100} {
		room := somehow(n, 200)
		before := bytes.Clone(room)
		stream.Apply(room[10:26], room[30:46], room[60:60+n])
		stream.Apply(room[:15], room[30:46], room[60:60+n])
		stream.Apply(room[20:36], room[20:36], room[20:20+n])
		if !bytes.Equal(room, before) {
			t.Errorf("%d bytes: what was handed in, or what stands around it, was changed", n)
		}
	}
}

func TestKeyCounterAndTextMayBeOne(t *testing.T) {
	one := somehow(1, 16)
	check(t, one, one, one, library(t, one, one, one))
}

func TestAnswersAreNew(t *testing.T) {
	key, counter, text := somehow(1, 16), somehow(2, 16), somehow(3, 50)
	want := library(t, key, counter, text)
	one, _ := stream.Apply(key, counter, text)
	two, _ := stream.Apply(key, counter, text)
	fill(one)
	if !bytes.Equal(two, want) || !bytes.Equal(text, somehow(3, 50)) {
		t.Error("an answer shares its memory")
	}
	check(t, key, counter, text, want)
	first := stream.Counter(1, 2)
	second := stream.Counter(1, 2)
	fill(first)
	if want := unhex(t, "00000001000000000000000200000000"); !bytes.Equal(second, want) || !bytes.Equal(stream.Counter(1, 2), want) {
		t.Error("two counters share their memory")
	}
}

// fill: bytes 255 all over a list and its spare room.
func fill(b []byte) {
	b = b[:cap(b)]
	for i := range b {
		b[i] = 255
	}
}

func TestApplyAnswersTheSameEachTime(t *testing.T) {
	key, counter, text := somehow(1, 16), bytes.Repeat([]byte{255}, 16), somehow(2, 70)
	want := library(t, key, counter, text)
	for seed := range 20 {
		stream.Apply(somehow(seed, 16), somehow(seed+100, 16), somehow(seed+200, seed))
		stream.Apply(somehow(seed, seed), counter, text)
		check(t, key, counter, text, want)
	}
}

func FuzzStreamsAgree(f *testing.F) {
	f.Add([]byte("0123456789abcdef"), bytes.Repeat([]byte{255}, 16), []byte("a text that is longer than a block"), 258, 5)
	f.Add(make([]byte, 15), make([]byte, 17), []byte{}, -1, math.MinInt)
	f.Fuzz(func(t *testing.T, key, counter, text []byte, slot, version int) {
		text = text[:min(len(text), api.MaxStream)]
		want := bytes.Join([][]byte{modulo(slot, 4), modulo(version, 8), make([]byte, 4)}, nil)
		if got := stream.Counter(slot, version); !bytes.Equal(got, want) {
			t.Fatalf("Counter(%d, %d) = %x, want %x", slot, version, got, want)
		}
		if len(key) != 16 {
			refused(t, key, counter, text, api.ErrArg)
			return
		}
		check(t, key, want, text, library(t, key, want, text))
		if len(counter) != 16 {
			refused(t, key, counter, text, api.ErrArg)
			return
		}
		check(t, key, counter, text, library(t, key, counter, text))
	})
}
