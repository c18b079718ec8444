package mac_test

import (
	"bytes"
	"crypto/hmac"
	"crypto/sha256"
	"encoding/binary"
	"encoding/hex"
	"math"
	"math/rand"
	"strings"
	"testing"

	"stowage/api"
	"stowage/mac"
)

// wordForWord: the code as the document says it.
func wordForWord(key []byte, parts ...[]byte) [32]byte {
	if len(key) > 64 {
		digest := sha256.Sum256(key)
		key = digest[:]
	}
	i, o := make([]byte, 64), make([]byte, 64)
	for at := range 64 {
		x := byte(0)
		if at < len(key) {
			x = key[at]
		}
		i[at], o[at] = x^0x36, x^0x5C
	}
	inner := sha256.Sum256(append(i, bytes.Join(parts, nil)...))
	return sha256.Sum256(append(o, inner[:]...))
}

// known: the code as Go's library reckons it.
func known(key []byte, text []byte) [32]byte {
	h := hmac.New(sha256.New, key)
	h.Write(text)
	return [32]byte(h.Sum(nil))
}

// somehow: n bytes of any kind, the same in each run.
func somehow(n int) []byte {
	b := make([]byte, n)
	rand.New(rand.NewSource(int64(n))).Read(b)
	return b
}

func want(t *testing.T, what string, got, want [32]byte) {
	t.Helper()
	if got != want {
		t.Errorf("%s: %x, want %x", what, got, want)
	}
}

// P4.1

func TestCodeOfKnownTexts(t *testing.T) {
	counted := make([]byte, 25)
	for i := range counted {
		counted[i] = byte(i + 1)
	}
	for _, c := range []struct{ key, text, code string }{
		{strings.Repeat("\x0b", 20), "Hi There", "b0344c61d8db38535ca8afceaf0bf12b881dc200c9833da726e9376c2e32cff7"},
		{"Jefe", "what do ya want for nothing?", "5bdcc146bf60754e6a042426089575c75a003f089d2739839dec58b964ec3843"},
		{strings.Repeat("\xaa", 20), strings.Repeat("\xdd", 50), "773ea91e36800e46854db8ebd09181a72959098b3ef8c122d9635514ced565fe"},
		{string(counted), strings.Repeat("\xcd", 50), "82558a389a443c0ea4cc819899f2083a85f0faa3e578f8077a2e3ff46729665b"},
		{strings.Repeat("\xaa", 131), "Test Using Larger Than Block-Size Key - Hash Key First", "60e431591ee0b67f0d8a26aacbf5b77f8e0bc6213728c5140546040f0ee37f54"},
		{"", "", "b613679a0814d9ec772f95d778c35fc5ff1697c493715653c6c712144292c5ad"},
	} {
		got := mac.Code([]byte(c.key), []byte(c.text))
		if hex.EncodeToString(got[:]) != c.code {
			t.Errorf("Code(%q, %q) = %x, want %s", c.key, c.text, got, c.code)
		}
	}
}

func TestCodeOfKeysOfEachLength(t *testing.T) {
	text := []byte("a text")
	for n := range 200 {
		for _, key := range [][]byte{somehow(n), make([]byte, n), bytes.Repeat([]byte{255}, n)} {
			want(t, "Code", mac.Code(key, text), known(key, text))
			want(t, "Code of nothing", mac.Code(key), known(key, nil))
		}
	}
}

func TestCodeOfTextsOfEachLength(t *testing.T) {
	key := []byte("a key")
	for n := range 200 {
		text := somehow(n)
		want(t, "Code", mac.Code(key, text), known(key, text))
	}
	long := somehow(1<<20 + 3)
	want(t, "Code of a long text", mac.Code(key, long), known(key, long))
	want(t, "Code with a long key", mac.Code(long, key), known(long, key))
}

func TestCodeIsAsItIsSaid(t *testing.T) {
	for _, n := range []int{0, 1, 31, 32, 33, 63, 64, 65, 66, 127, 128, 129} {
		key := somehow(n)
		want(t, "Code", mac.Code(key, key, nil, []byte("abc")), wordForWord(key, key, nil, []byte("abc")))
	}
}

func TestOfAKeyTheEndMayBeBytesZero(t *testing.T) {
	text := []byte("a text")
	short := mac.Code([]byte("k"), text)
	want(t, "with bytes 0 up to 64", mac.Code(append([]byte("k"), make([]byte, 63)...), text), short)
	if mac.Code(append([]byte("k"), make([]byte, 64)...), text) == short {
		t.Error("a key of 65 bytes was taken for one of 64")
	}
	long := somehow(65)
	digest := sha256.Sum256(long)
	want(t, "with the digest as key", mac.Code(digest[:], text), mac.Code(long, text))
	if mac.Code(long[:64], text) == mac.Code(long, text) {
		t.Error("a key of 65 bytes was cut")
	}
}

func TestCodeTakesPartsOneBehindTheOther(t *testing.T) {
	key, text := []byte("a key"), somehow(150)
	whole := known(key, text)
	for i := range len(text) + 1 {
		want(t, "in two parts", mac.Code(key, text[:i], text[i:]), whole)
		want(t, "with empty parts", mac.Code(key, nil, text[:i], []byte{}, text[i:], nil), whole)
	}
	var each [][]byte
	for i := range text {
		each = append(each, text[i:i+1])
	}
	want(t, "by single bytes", mac.Code(key, each...), whole)
	if mac.Code(key, text[75:], text[:75]) == whole {
		t.Error("the parts' order does not count")
	}
}

func TestCodeOfNothing(t *testing.T) {
	nothing := known(nil, nil)
	want(t, "no part", mac.Code(nil), nothing)
	want(t, "empty key", mac.Code([]byte{}), nothing)
	want(t, "nil parts", mac.Code(nil, nil, nil), nothing)
	want(t, "nil list of parts", mac.Code(nil, [][]byte(nil)...), nothing)
	want(t, "empty parts", mac.Code(nil, []byte{}, []byte{}), nothing)
}

func TestCodeLeavesWhatIsHandedIn(t *testing.T) {
	for _, n := range []int{0, 5, 63, 64, 65, 100} {
		room := somehow(300)
		kept := bytes.Clone(room)
		parts := append(make([][]byte, 0, 5), room[110:200], room[150:180])
		code := mac.Code(room[10:10+n], parts...)
		want(t, "again", mac.Code(room[10:10+n], parts...), code)
		if !bytes.Equal(room, kept) {
			t.Error("key, parts or what stands around them were changed")
		}
		if parts := parts[:5]; len(parts[0]) != 90 || len(parts[1]) != 30 || parts[2] != nil || parts[4] != nil {
			t.Error("the list of parts was changed")
		}
	}
}

func TestKeyMayBeAPartToo(t *testing.T) {
	both := somehow(64)
	want(t, "Code", mac.Code(both, both, both), known(both, append(bytes.Clone(both), both...)))
}

// P4.2: Same

func TestSame(t *testing.T) {
	for _, c := range []struct {
		a, b []byte
		same bool
	}{
		{nil, nil, true},
		{nil, []byte{}, true},
		{[]byte{}, nil, true},
		{nil, []byte{0}, false},
		{[]byte{0}, nil, false},
		{[]byte{0}, []byte{0}, true},
		{[]byte{0}, []byte{0, 0}, false},
		{[]byte{0, 0}, []byte{0}, false},
		{[]byte{1}, []byte{1, 0}, false},
		{[]byte{0, 1}, []byte{1}, false},
		{[]byte{1, 2}, []byte{2, 1}, false},
		{[]byte{1, 1}, []byte{2, 2}, false},
		{[]byte{3, 5}, []byte{5, 3}, false},
		{[]byte{128, 128}, []byte{0, 0}, false},
		{[]byte("abc"), []byte("abc"), true},
		{[]byte("abc"), []byte("abC"), false},
	} {
		if got := mac.Same(c.a, c.b); got != c.same {
			t.Errorf("Same(%v, %v) = %v", c.a, c.b, got)
		}
	}
}

func TestSameTellsEachBit(t *testing.T) {
	for n := 1; n < 40; n++ {
		a, b := somehow(n), somehow(n)
		if !mac.Same(a, b) {
			t.Errorf("%d bytes are not the same", n)
		}
		for bit := range 8 * n {
			b[bit/8] ^= 1 << (bit % 8)
			if mac.Same(a, b) || mac.Same(b, a) {
				t.Errorf("of %d bytes bit %d does not count", n, bit)
			}
			b[bit/8] ^= 1 << (bit % 8)
		}
		if mac.Same(a, b[:n-1]) || mac.Same(a[:n-1], b) {
			t.Errorf("%d bytes and one less are the same", n)
		}
	}
}

func TestSameOfEachTwoBytes(t *testing.T) {
	for x := range 256 {
		for y := range 256 {
			if mac.Same([]byte{byte(x)}, []byte{byte(y)}) != (x == y) {
				t.Errorf("Same of bytes %d and %d", x, y)
			}
		}
	}
}

func TestSameLeavesWhatIsHandedIn(t *testing.T) {
	room := somehow(100)
	kept := bytes.Clone(room)
	mac.Same(room[10:40], room[30:60])
	mac.Same(room, room)
	if !bytes.Equal(room, kept) {
		t.Error("the bytes or what stands around them were changed")
	}
}

// P4.2: Derive

// derived: the key as the document says it.
func derived(key []byte, purpose string, n int) []byte {
	text := append([]byte(purpose), 0)
	text = binary.BigEndian.AppendUint64(text, uint64(n))
	code := known(key, text)
	return code[:16]
}

func TestDerive(t *testing.T) {
	purposes := []string{"", "a", "seal", "\x00", "a\x00", "\xff\xfe", strings.Repeat("long", 100)}
	numbers := []int{0, 1, -1, 2, 255, 256, 258, 1<<32 - 1, 1 << 32, -1 << 32, 0x0102030405060708, math.MaxInt, math.MinInt}
	for _, key := range [][]byte{nil, {}, {0}, []byte("k"), somehow(16), somehow(64), somehow(65), somehow(200)} {
		for _, purpose := range purposes {
			for _, n := range numbers {
				got := mac.Derive(key, purpose, n)
				if len(got) != api.KeySize || !bytes.Equal(got, derived(key, purpose, n)) {
					t.Errorf("Derive(%x, %q, %d) = %x", key, purpose, n, got)
				}
			}
		}
	}
}

func TestDeriveIsTheCodeOfThreeParts(t *testing.T) {
	key := []byte("k")
	code := mac.Code(key, []byte("ab"), []byte{0}, []byte{0, 0, 0, 0, 0, 0, 1, 2})
	if got := mac.Derive(key, "ab", 258); !bytes.Equal(got, code[:16]) {
		t.Errorf("Derive: %x, want %x", got, code[:16])
	}
	code = mac.Code(key, []byte("ab"), []byte{0}, []byte{255, 255, 255, 255, 255, 255, 255, 254})
	if got := mac.Derive(key, "ab", -2); !bytes.Equal(got, code[:16]) {
		t.Errorf("Derive of -2: %x, want %x", got, code[:16])
	}
}

func TestDerivedKeysAreApart(t *testing.T) {
	seen := map[string]bool{}
	for _, key := range []string{"", "a", "b"} {
		for _, purpose := range []string{"", "a", "b", "ab"} {
			for _, n := range []int{0, 1, 256, -1, 1 << 40} {
				k := string(mac.Derive([]byte(key), purpose, n))
				if seen[k] {
					t.Errorf("Derive(%q, %q, %d) was there already", key, purpose, n)
				}
				seen[k] = true
			}
		}
	}
}

func TestDeriveAnswersNewMemory(t *testing.T) {
	room := somehow(100)
	kept := bytes.Clone(room)
	a := mac.Derive(room[5:25], "p", 1)
	b := mac.Derive(room[5:25], "p", 1)
	if cap(a) != api.KeySize {
		t.Errorf("spare room behind the key: %x", a[:cap(a)])
	}
	clear(a)
	if !bytes.Equal(b, derived(room[5:25], "p", 1)) || !bytes.Equal(mac.Derive(room[5:25], "p", 1), b) {
		t.Error("two keys share their memory")
	}
	if !bytes.Equal(room, kept) {
		t.Error("the key or what stands around it was changed")
	}
}

func FuzzCodesAgree(f *testing.F) {
	f.Add([]byte("Jefe"), []byte("what do ya want for nothing?"), 7, 9, "ab", 258)
	f.Add(make([]byte, 65), make([]byte, 130), 64, 65, "", -1)
	f.Fuzz(func(t *testing.T, key, text []byte, i, j int, purpose string, n int) {
		code := known(key, text)
		i = min(max(i, 0), len(text))
		j = min(max(j, i), len(text))
		want(t, "Code", mac.Code(key, text), code)
		want(t, "Code of parts", mac.Code(key, text[:i], text[i:j], text[j:]), code)
		if mac.Same(key, text) != bytes.Equal(key, text) {
			t.Errorf("Same(%x, %x)", key, text)
		}
		if got := mac.Derive(key, purpose, n); !bytes.Equal(got, derived(key, purpose, n)) {
			t.Errorf("Derive(%x, %q, %d) = %x", key, purpose, n, got)
		}
	})
}
