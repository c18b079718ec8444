package aes_test

import (
	"bytes"
	known "crypto/aes"
	"encoding/hex"
	"math/bits"
	"math/rand"
	"testing"

	"stowage/aes"
	"stowage/api"
)

// product: of bytes as polynomials, bit by bit.
func product(a, b byte) byte {
	whole := 0
	for i := range 8 {
		if b>>i&1 == 1 {
			whole ^= int(a) << i
		}
	}
	for i := 14; i >= 8; i-- {
		if whole>>i&1 == 1 {
			whole ^= 0x11B << (i - 8)
		}
	}
	return byte(whole)
}

// image: S(b) as the document says it.
func image(b byte) byte {
	v := byte(0)
	for x := range 256 {
		if product(b, byte(x)) == 1 {
			v = byte(x)
		}
	}
	sum := v ^ 0x63
	for n := 1; n <= 4; n++ {
		sum ^= bits.RotateLeft8(v, n)
	}
	return sum
}

// allImages: S of each byte.
var allImages = func() (all [256]byte) {
	for b := range all {
		all[b] = image(byte(b))
	}
	return all
}()

// words: W0 to W43 of a key, as the document says them.
func words(key []byte) (w [44][4]byte) {
	x := byte(1)
	for i := range w {
		if i < 4 {
			w[i] = [4]byte(key[4*i:])
			continue
		}
		t := w[i-1]
		if i%4 == 0 {
			t = [4]byte{allImages[t[1]], allImages[t[2]], allImages[t[3]], allImages[t[0]]}
			t[0] ^= x
			x = product(x, 2)
		}
		for r := range t {
			w[i][r] = w[i-4][r] ^ t[r]
		}
	}
	return w
}

// add: a round key, to a block.
func add(b []byte, w [44][4]byte, round int) {
	for i := range b {
		b[i] ^= w[4*round+i/4][i%4]
	}
}

// wordForWord: a block enciphered as the document says it.
func wordForWord(key, in []byte) []byte {
	w := words(key)
	b := bytes.Clone(in)
	add(b, w, 0)
	for round := 1; round <= 10; round++ {
		for i := range b {
			b[i] = allImages[b[i]]
		}
		old := bytes.Clone(b)
		for r := range 4 {
			for c := range 4 {
				b[4*c+r] = old[4*((c+r)%4)+r]
			}
		}
		for c := 0; c < 4 && round < 10; c++ {
			a0, a1, a2, a3 := b[4*c], b[4*c+1], b[4*c+2], b[4*c+3]
			b[4*c] = product(2, a0) ^ product(3, a1) ^ a2 ^ a3
			b[4*c+1] = a0 ^ product(2, a1) ^ product(3, a2) ^ a3
			b[4*c+2] = a0 ^ a1 ^ product(2, a2) ^ product(3, a3)
			b[4*c+3] = product(3, a0) ^ a1 ^ a2 ^ product(2, a3)
		}
		add(b, w, round)
	}
	return b
}

// library: a block enciphered as Go's library does it.
func library(t *testing.T, key, in []byte) []byte {
	t.Helper()
	c, err := known.NewCipher(key)
	if err != nil {
		t.Fatal(err)
	}
	out := make([]byte, 16)
	c.Encrypt(out, in)
	return out
}

// somehow: n bytes of any kind, the same in each run with one seed.
func somehow(seed, n int) []byte {
	b := make([]byte, n)
	rand.New(rand.NewSource(int64(seed))).Read(b)
	return b
}

func made(t *testing.T, key []byte) *aes.Cipher {
	t.Helper()
	c, e := aes.New(key)
	if c == nil || e != api.OK {
		t.Fatalf("New(%x) = %v, %d", key, c, e)
	}
	return c
}

// check: a block is enciphered as wanted, and deciphered again.
func check(t *testing.T, c *aes.Cipher, in, out []byte) {
	t.Helper()
	if got, e := c.Block(in); !bytes.Equal(got, out) || e != api.OK {
		t.Errorf("Block(%x) = %x, %d, want %x", in, got, e, out)
	}
	if got, e := c.Back(out); !bytes.Equal(got, in) || e != api.OK {
		t.Errorf("Back(%x) = %x, %d, want %x", out, got, e, in)
	}
}

// P5.1

func TestNewTakesKeysOf16Bytes(t *testing.T) {
	for n := range 100 {
		c, e := aes.New(make([]byte, n, n+16))
		switch {
		case n == 16 && (c == nil || e != api.OK):
			t.Errorf("New of 16 bytes: %v, %d", c, e)
		case n != 16 && (c != nil || e != api.ErrArg):
			t.Errorf("New of %d bytes: %v, %d", n, c, e)
		}
	}
	for _, key := range [][]byte{nil, {}, make([]byte, 1<<20), make([]byte, 0, 16), make([]byte, 15, 16)} {
		if c, e := aes.New(key); c != nil || e != api.ErrArg {
			t.Errorf("New of %d bytes: %v, %d", len(key), c, e)
		}
	}
}

func TestNewLeavesItsKeyAndKeepsIt(t *testing.T) {
	room := somehow(1, 100)
	before := bytes.Clone(room)
	key, in := bytes.Clone(room[20:36]), somehow(2, 16)
	out := library(t, key, in)
	c := made(t, room[20:36])
	if !bytes.Equal(room, before) {
		t.Error("the key or what stands around it was changed")
	}
	clear(room)
	check(t, c, in, out)
}

func TestCiphersAreApart(t *testing.T) {
	in := somehow(3, 16)
	var list []*aes.Cipher
	for i := range 5 {
		list = append(list, made(t, somehow(i, 16)))
	}
	for i, c := range list {
		check(t, c, in, library(t, somehow(i, 16), in))
	}
	same := made(t, somehow(0, 16))
	if same == list[0] {
		t.Error("New answered one cipher twice")
	}
	check(t, same, in, library(t, somehow(0, 16), in))
}

// P5.2

func TestKnownBlocks(t *testing.T) {
	for _, c := range [][3]string{
		{"000102030405060708090a0b0c0d0e0f", "00112233445566778899aabbccddeeff", "69c4e0d86a7b0430d8cdb78070b4c55a"},
		{"2b7e151628aed2a6abf7158809cf4f3c", "3243f6a8885a308d313198a2e0370734", "3925841d02dc09fbdc118597196a0b32"},
		{"2b7e151628aed2a6abf7158809cf4f3c", "6bc1bee22e409f96e93d7e117393172a", "3ad77bb40d7a3660a89ecaf32466ef97"},
		{"2b7e151628aed2a6abf7158809cf4f3c", "ae2d8a571e03ac9c9eb76fac45af8e51", "f5d3d58503b9699de785895a96fdbaaf"},
		{"2b7e151628aed2a6abf7158809cf4f3c", "30c81c46a35ce411e5fbc1191a0a52ef", "43b1cd7f598ece23881b00e3ed030688"},
		{"2b7e151628aed2a6abf7158809cf4f3c", "f69f2445df4f9b17ad2b417be66c3710", "7b0c785e27e8ad3f8223207104725dd4"},
		{"00000000000000000000000000000000", "00000000000000000000000000000000", "66e94bd4ef8a2c3b884cfa59ca342b2e"},
		{"ffffffffffffffffffffffffffffffff", "00000000000000000000000000000000", "a1f6258c877d5fcd8964484538bfc92c"},
	} {
		key, _ := hex.DecodeString(c[0])
		in, _ := hex.DecodeString(c[1])
		out, _ := hex.DecodeString(c[2])
		check(t, made(t, key), in, out)
	}
}

func TestEachByteAtEachPlace(t *testing.T) {
	for place := range 16 {
		for b := range 256 {
			one := make([]byte, 16)
			one[place] = byte(b)
			none := make([]byte, 16)
			check(t, made(t, none), one, library(t, none, one))
			check(t, made(t, one), none, library(t, one, none))
		}
	}
}

func TestBlocksOfAnyKind(t *testing.T) {
	for seed := range 300 {
		key := somehow(seed, 16)
		c := made(t, key)
		for more := range 10 {
			in := somehow(1000+10*seed+more, 16)
			check(t, c, in, library(t, key, in))
		}
	}
}

func TestBlockIsAsItIsSaid(t *testing.T) {
	for seed := range 200 {
		key, in := somehow(seed, 16), somehow(seed+1000, 16)
		check(t, made(t, key), in, wordForWord(key, in))
	}
}

func TestAlsoBlocksNeverEncipheredAreDeciphered(t *testing.T) {
	c := made(t, somehow(1, 16))
	for seed := range 300 {
		in := somehow(seed, 16)
		out, e := c.Back(in)
		if e != api.OK || !bytes.Equal(library(t, somehow(1, 16), out), in) {
			t.Errorf("Back(%x) = %x, %d", in, out, e)
		}
	}
}

func TestBlockIsNoBack(t *testing.T) {
	c, in := made(t, somehow(1, 16)), somehow(2, 16)
	forth, _ := c.Block(in)
	back, _ := c.Back(in)
	if bytes.Equal(forth, back) || bytes.Equal(forth, in) {
		t.Errorf("of %x: %x, %x", in, forth, back)
	}
}

func TestWhatIsNoBlockIsRefused(t *testing.T) {
	c := made(t, somehow(1, 16))
	lengths := []int{16 << 10, 1 << 20}
	for n := range 100 {
		lengths = append(lengths, n)
	}
	for _, n := range lengths {
		in := make([]byte, n, n+16)
		if n == 16 {
			continue
		}
		if out, e := c.Block(in); out != nil || e != api.ErrArg {
			t.Errorf("Block of %d bytes: %x, %d", n, out, e)
		}
		if out, e := c.Back(in); out != nil || e != api.ErrArg {
			t.Errorf("Back of %d bytes: %x, %d", n, out, e)
		}
	}
	if out, e := c.Block(nil); out != nil || e != api.ErrArg {
		t.Errorf("Block(nil): %x, %d", out, e)
	}
	if out, e := c.Back(nil); out != nil || e != api.ErrArg {
		t.Errorf("Back(nil): %x, %d", out, e)
	}
	in := somehow(2, 16)
	check(t, c, in, library(t, somehow(1, 16), in))
}

func TestNoCipherIsClosed(t *testing.T) {
	refused, _ := aes.New(nil)
	for _, none := range []*aes.Cipher{nil, refused} {
		for _, in := range [][]byte{nil, {}, make([]byte, 15), make([]byte, 16), make([]byte, 17)} {
			if out, e := none.Block(in); out != nil || e != api.ErrClosed {
				t.Errorf("Block of %d bytes: %x, %d", len(in), out, e)
			}
			if out, e := none.Back(in); out != nil || e != api.ErrClosed {
				t.Errorf("Back of %d bytes: %x, %d", len(in), out, e)
			}
		}
	}
}

// R1: also a cipher that New did not answer answers something.
func TestCipherWithoutAnythingAnswers(t *testing.T) {
	for _, in := range [][]byte{nil, make([]byte, 15), somehow(1, 16)} {
		new(aes.Cipher).Block(in)
		new(aes.Cipher).Back(in)
	}
}

// R4, R5

func TestBlocksAreLeftAndAnswersAreNew(t *testing.T) {
	c := made(t, somehow(1, 16))
	room := somehow(2, 100)
	before := bytes.Clone(room)
	for _, do := range []func([]byte) ([]byte, api.Errno){c.Block, c.Back} {
		one, _ := do(room[30:46])
		two, _ := do(room[30:46])
		if !bytes.Equal(room, before) {
			t.Error("the block or what stands around it was changed")
		}
		kept := bytes.Clone(two)
		if cap(one) > 16 && !bytes.Equal(one[:cap(one)], append(bytes.Clone(one), make([]byte, cap(one)-16)...)) {
			t.Errorf("something stands in the spare room: %x", one[:cap(one)])
		}
		clear(one[:cap(one)])
		three, _ := do(room[30:46])
		if !bytes.Equal(two, kept) || !bytes.Equal(three, kept) {
			t.Error("two answers share their memory, or one shares the cipher's")
		}
	}
}

func TestACipherAnswersTheSameEachTime(t *testing.T) {
	key := somehow(1, 16)
	c := made(t, key)
	for seed := range 50 {
		in := somehow(seed, 16)
		c.Back(somehow(seed+100, 16))
		c.Block(make([]byte, seed%16))
		check(t, c, in, library(t, key, in))
		check(t, c, in, library(t, key, in))
	}
}

func FuzzBlocksAgree(f *testing.F) {
	f.Add([]byte("0123456789abcdef"), []byte("fedcba9876543210"))
	f.Add(make([]byte, 15), make([]byte, 17))
	f.Fuzz(func(t *testing.T, key, in []byte) {
		c, e := aes.New(key)
		if (len(key) == 16) != (c != nil) || (c != nil) != (e == api.OK) {
			t.Fatalf("New of %d bytes: %v, %d", len(key), c, e)
		}
		if c == nil || len(in) != 16 {
			want := api.ErrArg
			if c == nil {
				want = api.ErrClosed
			}
			if out, e := c.Block(in); out != nil || e != want {
				t.Fatalf("Block of %d bytes: %x, %d", len(in), out, e)
			}
			if out, e := c.Back(in); out != nil || e != want {
				t.Fatalf("Back of %d bytes: %x, %d", len(in), out, e)
			}
			return
		}
		check(t, c, in, library(t, key, in))
	})
}
