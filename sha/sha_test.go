package sha_test

import (
	"bytes"
	"crypto/sha256"
	"encoding/binary"
	"encoding/hex"
	"math/big"
	"math/bits"
	"math/rand"
	"strings"
	"testing"

	"stowage/sha"
)

// fraction: of a root of a number the first 32 bits of its fraction.
func fraction(of int64, root int) uint32 {
	shifted := new(big.Int).Lsh(big.NewInt(of), uint(32*root))
	low, high := new(big.Int), new(big.Int).Lsh(big.NewInt(1), 40)
	for {
		middle := new(big.Int).Add(low, high)
		middle.Rsh(middle, 1)
		if middle.Cmp(low) == 0 {
			return uint32(low.Uint64())
		}
		power := new(big.Int).Exp(middle, big.NewInt(int64(root)), nil)
		if power.Cmp(shifted) <= 0 {
			low = middle
		} else {
			high = middle
		}
	}
}

// primes: the first n.
func primes(n int) []int64 {
	var list []int64
	for x := int64(2); len(list) < n; x++ {
		if big.NewInt(x).ProbablyPrime(0) {
			list = append(list, x)
		}
	}
	return list
}

// wordForWord: the digest as the document says it.
func wordForWord(text []byte) [32]byte {
	var H [8]uint32
	var K [64]uint32
	for i, p := range primes(64) {
		if i < 8 {
			H[i] = fraction(p, 2)
		}
		K[i] = fraction(p, 3)
	}
	rotr := func(x uint32, n int) uint32 { return bits.RotateLeft32(x, -n) }
	all := append(bytes.Clone(text), 0x80)
	for len(all)%64 != 56 {
		all = append(all, 0)
	}
	all = binary.BigEndian.AppendUint64(all, uint64(len(text))*8)
	for ; len(all) > 0; all = all[64:] {
		var W [64]uint32
		for t := 0; t < 64; t++ {
			if t < 16 {
				W[t] = binary.BigEndian.Uint32(all[4*t:])
				continue
			}
			x, y := W[t-15], W[t-2]
			s0 := rotr(x, 7) ^ rotr(x, 18) ^ (x >> 3)
			s1 := rotr(y, 17) ^ rotr(y, 19) ^ (y >> 10)
			W[t] = s1 + W[t-7] + s0 + W[t-16]
		}
		a, b, c, d, e, f, g, h := H[0], H[1], H[2], H[3], H[4], H[5], H[6], H[7]
		for t := 0; t < 64; t++ {
			T1 := h + (rotr(e, 6) ^ rotr(e, 11) ^ rotr(e, 25)) + ((e & f) ^ (^e & g)) + K[t] + W[t]
			T2 := (rotr(a, 2) ^ rotr(a, 13) ^ rotr(a, 22)) + ((a & b) ^ (a & c) ^ (b & c))
			h, g, f, e, d, c, b, a = g, f, e, d+T1, c, b, a, T1+T2
		}
		for i, x := range []uint32{a, b, c, d, e, f, g, h} {
			H[i] += x
		}
	}
	var digest [32]byte
	for i, x := range H {
		binary.BigEndian.PutUint32(digest[4*i:], x)
	}
	return digest
}

// somehow: n bytes of any kind, the same in each run.
func somehow(n int) []byte {
	b := make([]byte, n)
	rand.New(rand.NewSource(int64(n))).Read(b)
	return b
}

func want(t *testing.T, what string, got, want [32]byte) {
	t.Helper()
	if got != want {
		t.Errorf("%s: %x, want %x", what, got, want)
	}
}

// P3.1

func TestDigestOfKnownTexts(t *testing.T) {
	for text, digest := range map[string]string{
		"":    "e3b0c44298fc1c149afbf4c8996fb92427ae41e4649b934ca495991b7852b855",
		"abc": "ba7816bf8f01cfea414140de5dae2223b00361a396177a9cb410ff61f20015ad",
		"abcdbcdecdefdefgefghfghighijhijkijkljklmklmnlmnomnopnopq": "248d6a61d20638b8e5c026930c3e6039a33ce45964ff2167f6ecedd419db06c1",
		"The quick brown fox jumps over the lazy dog":              "d7a8fbb307d7809469ca9abcb0082e4f8d5651e46d3cdb762d02d0bf37c9e592",
		strings.Repeat("a", 1000000):                               "cdc76e5c9914fb9281a1c7e284d73e67f1809a48a497200e046d39ccc7112cd0",
	} {
		got := sha.Digest([]byte(text))
		if hex.EncodeToString(got[:]) != digest {
			t.Errorf("%.60q: %x, want %s", text, got, digest)
		}
	}
	want(t, "Digest of nil", sha.Digest(nil), sha256.Sum256(nil))
}

func TestDigestOfEachByte(t *testing.T) {
	for x := range 256 {
		b := []byte{byte(x)}
		want(t, "one byte", sha.Digest(b), sha256.Sum256(b))
		b = bytes.Repeat(b, 119)
		want(t, "a byte many times", sha.Digest(b), sha256.Sum256(b))
	}
}

func TestDigestOfEachLength(t *testing.T) {
	for n := range 400 {
		b := somehow(n)
		want(t, "bytes", sha.Digest(b), sha256.Sum256(b))
		want(t, "bytes 0", sha.Digest(make([]byte, n)), sha256.Sum256(make([]byte, n)))
		ones := bytes.Repeat([]byte{255}, n)
		want(t, "bytes 255", sha.Digest(ones), sha256.Sum256(ones))
	}
}

func TestDigestIsAsItIsSaid(t *testing.T) {
	for _, n := range []int{0, 1, 3, 4, 54, 55, 56, 57, 63, 64, 65, 111, 118, 119, 120, 127, 128, 129, 1000} {
		b := somehow(n)
		want(t, "bytes", sha.Digest(b), wordForWord(b))
	}
}

func TestDigestOfLongTexts(t *testing.T) {
	for _, n := range []int{1<<13 - 9, 1 << 13, 1<<16 - 1, 1<<20 + 55, 1<<21 + 56} {
		b := somehow(n)
		want(t, "a long text", sha.Digest(b), sha256.Sum256(b))
	}
}

func TestLengthInBitsGoesBeyond32(t *testing.T) {
	h, known := sha.New(), sha256.New()
	part := somehow(1 << 20)
	for range 1<<9 + 1 {
		h.Write(part)
		known.Write(part)
	}
	want(t, "more than 2^32 bits", h.Sum(), [32]byte(known.Sum(nil)))
}

func TestDigestLeavesTheBytes(t *testing.T) {
	room := somehow(300)
	kept := bytes.Clone(room)
	sha.Digest(room[10:90])
	h := sha.New()
	h.Write(room[10:20])
	h.Write(room[20:200])
	h.Sum()
	if !bytes.Equal(room, kept) {
		t.Error("the bytes or what stands around them were changed")
	}
}

// P3.2

func TestNewTookNothing(t *testing.T) {
	h := sha.New()
	want(t, "Sum of nothing", h.Sum(), sha256.Sum256(nil))
	h.Write(nil)
	h.Write([]byte{})
	want(t, "Sum of nothing, often", h.Sum(), sha256.Sum256(nil))
}

func TestWriteTakesBehindWhatItTook(t *testing.T) {
	text := somehow(200)
	for i := range len(text) + 1 {
		for _, j := range []int{i, i + 1, i + 63, i + 64, i + 65, len(text)} {
			if j > len(text) {
				continue
			}
			h := sha.New()
			h.Write(text[:i])
			h.Write(text[i:j])
			h.Write(nil)
			h.Write(text[j:])
			want(t, "in three parts", h.Sum(), sha256.Sum256(text))
		}
	}
}

func TestWriteByParts(t *testing.T) {
	text := somehow(1000)
	for size := 1; size < 140; size++ {
		h := sha.New()
		for rest := text; len(rest) > 0; {
			n := min(size, len(rest))
			h.Write(rest[:n])
			rest = rest[n:]
		}
		want(t, "in parts", h.Sum(), sha256.Sum256(text))
	}
}

func TestSumMayBeFollowedByMore(t *testing.T) {
	text := somehow(200)
	h := sha.New()
	for i := range text {
		want(t, "Sum", h.Sum(), sha256.Sum256(text[:i]))
		want(t, "Sum again", h.Sum(), sha256.Sum256(text[:i]))
		h.Write(text[i : i+1])
	}
	want(t, "Sum", h.Sum(), sha256.Sum256(text))
}

func TestSumIsNewEachTime(t *testing.T) {
	h := sha.New()
	h.Write([]byte("abc"))
	sum := h.Sum()
	clear(sum[:])
	want(t, "Sum", h.Sum(), sha256.Sum256([]byte("abc")))
}

func TestWriteKeepsNothingOfTheList(t *testing.T) {
	for _, n := range []int{1, 63, 64, 65, 130} {
		text := somehow(n)
		known := sha256.Sum256(text)
		h := sha.New()
		h.Write(text)
		clear(text)
		want(t, "Sum, after the list was cleared", h.Sum(), known)
	}
}

func TestHashesAreApart(t *testing.T) {
	a, b := sha.New(), sha.New()
	text := somehow(150)
	for i := range text {
		a.Write(text[i : i+1])
		b.Write(text[len(text)-1-i : len(text)-i])
		sha.Digest(text)
	}
	want(t, "one", a.Sum(), sha256.Sum256(text))
	back := make([]byte, len(text))
	for i, x := range text {
		back[len(back)-1-i] = x
	}
	want(t, "other", b.Sum(), sha256.Sum256(back))
	want(t, "new one", sha.New().Sum(), sha256.Sum256(nil))
}

func TestNilHash(t *testing.T) {
	var none *sha.Hash
	want(t, "Sum of no hash", none.Sum(), [32]byte{})
	none.Write(nil)
	none.Write([]byte("abc"))
	none.Write(somehow(1000))
	want(t, "Sum of no hash", none.Sum(), [32]byte{})
}

func TestHashWithoutAnythingIsAsNew(t *testing.T) {
	var h sha.Hash
	want(t, "Sum of nothing", h.Sum(), sha256.Sum256(nil))
	text := somehow(100)
	h.Write(text)
	want(t, "Sum", h.Sum(), sha256.Sum256(text))
}

func FuzzDigestsAgree(f *testing.F) {
	f.Add([]byte("abc"), 1, 2)
	f.Add(make([]byte, 130), 64, 65)
	f.Fuzz(func(t *testing.T, b []byte, i, j int) {
		known := sha256.Sum256(b)
		want(t, "Digest", sha.Digest(b), known)
		i = min(max(i, 0), len(b))
		j = min(max(j, i), len(b))
		h := sha.New()
		h.Write(b[:i])
		want(t, "Sum ahead", h.Sum(), sha256.Sum256(b[:i]))
		h.Write(b[i:j])
		h.Write(b[j:])
		want(t, "Sum", h.Sum(), known)
	})
}
