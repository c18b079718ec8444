package seal_test

import (
	"bytes"
	knownaes "crypto/aes"
	"crypto/cipher"
	"crypto/hmac"
	"crypto/sha256"
	"encoding/binary"
	"encoding/hex"
	"math"
	"math/rand"
	"strings"
	"testing"

	"stowage/api"
	"stowage/mac"
	"stowage/seal"
	"stowage/stream"
)

// somehow: n bytes of any kind, the same in each run with one seed.
func somehow(seed, n int) []byte {
	b := make([]byte, n)
	rand.New(rand.NewSource(int64(seed))).Read(b)
	return b
}

// someHead: a head of any numbers from 0 on, the same in each run with one seed.
func someHead(seed int) api.Head {
	r := rand.New(rand.NewSource(int64(seed)))
	n := func() int { return r.Int() >> r.Intn(63) }
	return api.Head{Tenant: n(), Volume: n(), Block: n(), Slot: n(), Version: n(), Tag: string(somehow(seed, seed%20))}
}

// unhex: bytes of their digits.
func unhex(t *testing.T, digits string) []byte {
	t.Helper()
	b, err := hex.DecodeString(digits)
	if err != nil {
		t.Fatal(err)
	}
	return b
}

// wordForWord: a sector sealed as the document says it, of the layers below.
func wordForWord(t *testing.T, key string, h api.Head, text []byte) ([]byte, string) {
	t.Helper()
	sealed, e := stream.Apply(mac.Derive([]byte(key), "cipher", h.Tenant), stream.Counter(h.Slot, h.Version), text)
	if e != api.OK {
		t.Fatalf("Apply: %d", e)
	}
	return sealed, tagOf(key, h, sealed)
}

// tagOf: the tag of what is sealed, as the document says it.
func tagOf(key string, h api.Head, sealed []byte) string {
	var numbers []byte
	for _, n := range []int{h.Tenant, h.Volume, h.Block, h.Slot, h.Version} {
		numbers = binary.BigEndian.AppendUint64(numbers, uint64(n))
	}
	code := mac.Code(mac.Derive([]byte(key), "tag", h.Tenant), numbers, sealed)
	return string(code[:16])
}

// library: a sector sealed by Go's library alone.
func library(t *testing.T, key string, h api.Head, text []byte) ([]byte, string) {
	t.Helper()
	derive := func(purpose string) []byte {
		m := hmac.New(sha256.New, []byte(key))
		m.Write(binary.BigEndian.AppendUint64([]byte(purpose+"\x00"), uint64(h.Tenant)))
		return m.Sum(nil)[:16]
	}
	c, err := knownaes.NewCipher(derive("cipher"))
	if err != nil {
		t.Fatal(err)
	}
	counter := binary.BigEndian.AppendUint64(binary.BigEndian.AppendUint32(nil, uint32(h.Slot)), uint64(h.Version))
	sealed := make([]byte, len(text))
	cipher.NewCTR(c, append(counter, 0, 0, 0, 0)).XORKeyStream(sealed, text)
	m := hmac.New(sha256.New, derive("tag"))
	for _, n := range []int{h.Tenant, h.Volume, h.Block, h.Slot, h.Version} {
		m.Write(binary.BigEndian.AppendUint64(nil, uint64(n)))
	}
	m.Write(sealed)
	return sealed, string(m.Sum(nil)[:16])
}

// check: a text is sealed as wanted, and opened again under that tag.
func check(t *testing.T, key string, h api.Head, text, want []byte, tag string) {
	t.Helper()
	if got, gotTag, e := seal.Seal(key, h, text); !bytes.Equal(got, want) || gotTag != tag || e != api.OK {
		t.Errorf("Seal(%x, %v) = %x, %x, %d, want %x, %x", key, h, got, gotTag, e, want, tag)
	}
	h.Tag = tag
	if got, e := seal.Open(key, h, want); !bytes.Equal(got, text) || e != api.OK {
		t.Errorf("Open(%x, %v) = %x, %d, want %x", key, h, got, e, text)
	}
}

// refused: Seal and Open answer this error, and nothing beside it.
func refused(t *testing.T, key string, h api.Head, b []byte, want api.Errno) {
	t.Helper()
	if got, tag, e := seal.Seal(key, h, b); got != nil || tag != "" || e != want {
		t.Errorf("Seal of %d and %d bytes, %v: %x, %x, %d, want %d", len(key), len(b), h, got, tag, e, want)
	}
	notOpened(t, key, h, b, want)
}

// notOpened: Open answers this error, and nothing beside it.
func notOpened(t *testing.T, key string, h api.Head, sealed []byte, want api.Errno) {
	t.Helper()
	if got, e := seal.Open(key, h, sealed); got != nil || e != want {
		t.Errorf("Open of %d and %d bytes, %v: %x, %d, want %d", len(key), len(sealed), h, got, e, want)
	}
}

// numbersOf: a head's numbers, to be changed one by one.
func numbersOf(h *api.Head) []*int {
	return []*int{&h.Tenant, &h.Volume, &h.Block, &h.Slot, &h.Version}
}

const someKey = "0123456789abcdef"

// sealedSector: a head with its tag, and what is sealed under it.
func sealedSector(t *testing.T, seed int) (api.Head, []byte, []byte) {
	t.Helper()
	h, text := api.Head{Tenant: 1, Volume: 2, Block: 3, Slot: 4, Version: 5}, somehow(seed, api.Sector)
	sealed, tag, e := seal.Seal(someKey, h, text)
	if e != api.OK {
		t.Fatalf("Seal: %d", e)
	}
	h.Tag = tag
	return h, text, sealed
}

// P7.1

func TestKnownSectors(t *testing.T) {
	counting := make([]byte, api.Sector)
	for i := range counting {
		counting[i] = byte(i)
	}
	for _, c := range []struct {
		h           api.Head
		text        []byte
		sealed, tag string
	}{
		{
			api.Head{Tenant: 1, Volume: 2, Block: 3, Slot: 4, Version: 5}, bytes.Repeat([]byte("abcd"), 16),
			"4afe03bfba12123c353bf125d32417abc98425e04d5bbfdc47a9647e472fea4c7df1a7e172af296187638e0e556191cf89cf3497e31e6527071d5903ba291d4a",
			"ad0a31274db8033a34333bf025447053",
		},
		{
			api.Head{}, make([]byte, api.Sector),
			"f6246ba51739584a53694d16b44fd73bf1cef14e070951c3127ea8784c8714b7a1adfd4621dddab80f4911ae88776c1dee9023478b3061b87dcb88a30196fe68",
			"17b5ca5495e87ba3d7758f636687a2cf",
		},
		{
			api.Head{Tenant: math.MaxInt, Volume: math.MaxInt - 1, Block: math.MaxInt - 2, Slot: 1<<32 + 7, Version: math.MaxInt - 4}, counting,
			"404238dd58df44a987832c0575f8e44754d6ade85d132b2a9b892bc3d9645d01dee839c0ec3fe14a0034f6e4f9838d7657e49d6b631ad3fcd3febf50dd8c57a0",
			"120150ca1dd72aa071143f3cde24c2f8",
		},
	} {
		check(t, someKey, c.h, c.text, unhex(t, c.sealed), string(unhex(t, c.tag)))
	}
}

func TestSectorsAreSealedAsItIsSaid(t *testing.T) {
	for seed := range 300 {
		key, h, text := string(somehow(seed, 16)), someHead(seed), somehow(seed+1000, api.Sector)
		sealed, tag := library(t, key, h, text)
		check(t, key, h, text, sealed, tag)
		sealed, tag = wordForWord(t, key, h, text)
		check(t, key, h, text, sealed, tag)
	}
}

func TestHeadsAtTheirEnds(t *testing.T) {
	text := somehow(1, api.Sector)
	for _, n := range []int{0, 1, 255, 256, 1<<31 - 1, 1 << 31, 1<<32 - 1, 1 << 32, 1<<62 + 1, math.MaxInt} {
		for i := range numbersOf(&api.Head{}) {
			h := api.Head{Tenant: 1, Volume: 2, Block: 3, Slot: 4, Version: 5}
			*numbersOf(&h)[i] = n
			sealed, tag := library(t, someKey, h, text)
			check(t, someKey, h, text, sealed, tag)
		}
	}
}

// Slots that differ by 2^32 have one counter, but not one tag.
func TestSlotsCountInTheTagAsAWhole(t *testing.T) {
	text := somehow(1, api.Sector)
	near := api.Head{Tenant: 1, Slot: 7}
	far := api.Head{Tenant: 1, Slot: 1<<32 + 7}
	nearSealed, nearTag, _ := seal.Seal(someKey, near, text)
	farSealed, farTag, _ := seal.Seal(someKey, far, text)
	if !bytes.Equal(nearSealed, farSealed) || nearTag == farTag {
		t.Errorf("slot 7: %x, %x; slot 2^32 + 7: %x, %x", nearSealed, nearTag, farSealed, farTag)
	}
}

// Volume and block count in the tag alone; tenant, slot and version count in what is sealed, too.
func TestWhatCountsWhere(t *testing.T) {
	h, text, sealed := sealedSector(t, 1)
	for i, alters := range []bool{true, false, false, true, true} {
		other := h
		*numbersOf(&other)[i] += 10
		got, tag, e := seal.Seal(someKey, other, text)
		if e != api.OK || tag == h.Tag || bytes.Equal(got, sealed) == alters {
			t.Errorf("number %d: %x, %x, %d beside %x, %x", i, got, tag, e, sealed, h.Tag)
		}
	}
}

func TestSealTakesNoTag(t *testing.T) {
	text := somehow(1, api.Sector)
	h := api.Head{Tenant: 1, Volume: 2, Block: 3, Slot: 4, Version: 5}
	sealed, tag := library(t, someKey, h, text)
	for _, other := range []string{"", "x", tag, strings.Repeat("\x00", 16), strings.Repeat("y", 1000)} {
		h.Tag = other
		check(t, someKey, h, text, sealed, tag)
	}
}

func TestEachByteOfTheKeyCounts(t *testing.T) {
	h, text, sealed := sealedSector(t, 1)
	for i := range len(someKey) {
		key := []byte(someKey)
		key[i] ^= 0x80
		otherSealed, otherTag := library(t, string(key), h, text)
		check(t, string(key), h, text, otherSealed, otherTag)
		if bytes.Equal(otherSealed, sealed) || otherTag == h.Tag {
			t.Errorf("byte %d of the key does not count", i)
		}
	}
}

func TestKeysOfKeySizeBytes(t *testing.T) {
	h, _, sealed := sealedSector(t, 1)
	for n := range 70 {
		if n != api.KeySize {
			refused(t, strings.Repeat("k", n), h, sealed, api.ErrArg)
		}
	}
	refused(t, strings.Repeat("k", 1<<20), h, sealed, api.ErrArg)
	// Sixteen runes of two bytes are 32 bytes, eight of them are 16.
	refused(t, strings.Repeat("ä", 16), h, sealed, api.ErrArg)
	otherSealed, tag := library(t, strings.Repeat("ä", 8), h, sealed)
	check(t, strings.Repeat("ä", 8), h, sealed, otherSealed, tag)
}

func TestTextsOfASector(t *testing.T) {
	h, _, _ := sealedSector(t, 1)
	for n := range 200 {
		if n != api.Sector {
			refused(t, someKey, h, make([]byte, n, n+api.Sector), api.ErrArg)
		}
	}
	refused(t, someKey, h, nil, api.ErrArg)
	refused(t, someKey, h, make([]byte, api.MaxStream), api.ErrArg)
	refused(t, someKey, h, make([]byte, api.MaxStream+1), api.ErrArg)
}

func TestNumbersBelow0(t *testing.T) {
	h, _, sealed := sealedSector(t, 1)
	for i := range numbersOf(&h) {
		for _, n := range []int{-1, -2, -1 << 31, -1 << 32, math.MinInt, math.MinInt + 1} {
			other := h
			*numbersOf(&other)[i] = n
			refused(t, someKey, other, sealed, api.ErrRange)
			for j := range numbersOf(&h) {
				two := other
				*numbersOf(&two)[j] = -3
				refused(t, someKey, two, sealed, api.ErrRange)
			}
		}
	}
}

func TestWhichErrorGoesAhead(t *testing.T) {
	h, _, sealed := sealedSector(t, 1)
	below := h
	below.Version = -1
	for _, other := range []api.Head{h, below, {Tag: "x"}, {Tenant: math.MinInt}} {
		refused(t, someKey[:15], other, sealed, api.ErrArg)
		refused(t, someKey, other, sealed[:63], api.ErrArg)
		refused(t, "", other, nil, api.ErrArg)
	}
	below.Tag = "x"
	notOpened(t, someKey, below, sealed, api.ErrRange)
}

// P7.2

func TestEachTurnedBitIsSeen(t *testing.T) {
	h, _, sealed := sealedSector(t, 1)
	for bit := range 8 * len(sealed) {
		turned := bytes.Clone(sealed)
		turned[bit/8] ^= 1 << (bit % 8)
		notOpened(t, someKey, h, turned, api.ErrSeal)
	}
	for bit := range 8 * len(h.Tag) {
		tag := []byte(h.Tag)
		tag[bit/8] ^= 1 << (bit % 8)
		other := h
		other.Tag = string(tag)
		notOpened(t, someKey, other, sealed, api.ErrSeal)
	}
	for i := range numbersOf(&h) {
		for bit := range 63 {
			other := h
			*numbersOf(&other)[i] ^= 1 << bit
			notOpened(t, someKey, other, sealed, api.ErrSeal)
		}
	}
	for bit := range 8 * len(someKey) {
		key := []byte(someKey)
		key[bit/8] ^= 1 << (bit % 8)
		notOpened(t, string(key), h, sealed, api.ErrSeal)
	}
}

func TestTagsThatAreNone(t *testing.T) {
	h, _, sealed := sealedSector(t, 1)
	tag := h.Tag
	for n := range len(tag) {
		h.Tag = tag[:n]
		notOpened(t, someKey, h, sealed, api.ErrSeal)
		h.Tag = tag[n+1:]
		notOpened(t, someKey, h, sealed, api.ErrSeal)
	}
	for _, other := range []string{"", tag + "\x00", "\x00" + tag, tag + tag, strings.Repeat("\x00", 16), strings.Repeat("x", 1<<20)} {
		h.Tag = other
		notOpened(t, someKey, h, sealed, api.ErrSeal)
	}
}

// The tag is no longer than it is said, though the code of which it is the start goes on.
func TestTheWholeCodeIsNoTag(t *testing.T) {
	h, text, sealed := sealedSector(t, 1)
	var numbers []byte
	for _, n := range numbersOf(&h) {
		numbers = binary.BigEndian.AppendUint64(numbers, uint64(*n))
	}
	code := mac.Code(mac.Derive([]byte(someKey), "tag", h.Tenant), numbers, sealed)
	check(t, someKey, h, text, sealed, string(code[:16]))
	for _, other := range []string{string(code[:]), string(code[:17]), string(code[16:])} {
		h.Tag = other
		notOpened(t, someKey, h, sealed, api.ErrSeal)
	}
}

// Two heads' tags are not to be changed for one another, nor is what is sealed under them.
func TestSectorsDoNotChangePlaces(t *testing.T) {
	text := somehow(1, api.Sector)
	one, two := api.Head{Tenant: 1, Block: 1, Slot: 1}, api.Head{Tenant: 1, Block: 2, Slot: 2}
	oneSealed, oneTag, _ := seal.Seal(someKey, one, text)
	twoSealed, twoTag, _ := seal.Seal(someKey, two, text)
	one.Tag, two.Tag = oneTag, twoTag
	notOpened(t, someKey, one, twoSealed, api.ErrSeal)
	notOpened(t, someKey, two, oneSealed, api.ErrSeal)
	one.Tag, two.Tag = twoTag, oneTag
	notOpened(t, someKey, one, oneSealed, api.ErrSeal)
	notOpened(t, someKey, one, twoSealed, api.ErrSeal)
	notOpened(t, someKey, two, twoSealed, api.ErrSeal)
}

// Whatever bytes have the right tag are opened, also when Seal never answered them.
func TestAnyBytesWithTheirTagAreOpened(t *testing.T) {
	for seed := range 50 {
		key, h, sealed := string(somehow(seed, 16)), someHead(seed), somehow(seed+1000, api.Sector)
		h.Tag = tagOf(key, h, sealed)
		text, _ := library(t, key, h, sealed)
		if got, e := seal.Open(key, h, sealed); !bytes.Equal(got, text) || e != api.OK {
			t.Errorf("Open(%x, %v) = %x, %d, want %x", key, h, got, e, text)
		}
	}
}

// R4, R5

func TestWhatIsHandedInIsLeft(t *testing.T) {
	h, text, sealed := sealedSector(t, 1)
	for _, b := range [][]byte{text, sealed} {
		room := append(append(somehow(2, 20), b...), somehow(3, 100)...)
		before := bytes.Clone(room)
		seal.Seal(someKey, h, room[20:20+api.Sector])
		seal.Open(someKey, h, room[20:20+api.Sector])
		seal.Seal("", h, room[20:20+api.Sector])
		seal.Open(someKey, h, room[20:19+api.Sector])
		if !bytes.Equal(room, before) {
			t.Error("what was handed in, or what stands around it, was changed")
		}
	}
}

// fill: bytes 255 all over a list and its spare room.
func fill(b []byte) {
	b = b[:cap(b)]
	for i := range b {
		b[i] = 255
	}
}

func TestAnswersAreNew(t *testing.T) {
	h, text, sealed := sealedSector(t, 1)
	one, _, _ := seal.Seal(someKey, h, text)
	two, _, _ := seal.Seal(someKey, h, text)
	fill(one)
	if !bytes.Equal(two, sealed) || !bytes.Equal(text, somehow(1, api.Sector)) {
		t.Error("what is sealed shares its memory")
	}
	one, _ = seal.Open(someKey, h, sealed)
	two, _ = seal.Open(someKey, h, sealed)
	fill(one)
	if !bytes.Equal(two, text) {
		t.Error("what is opened shares its memory")
	}
	check(t, someKey, h, text, sealed, h.Tag)
}

func TestSealAnswersTheSameEachTime(t *testing.T) {
	h, text, sealed := sealedSector(t, 1)
	for seed := range 20 {
		seal.Seal(string(somehow(seed, 16)), someHead(seed), somehow(seed, api.Sector))
		notOpened(t, someKey, someHead(seed), sealed, api.ErrSeal)
		check(t, someKey, h, text, sealed, h.Tag)
	}
}

func FuzzSealsAgree(f *testing.F) {
	f.Add(someKey, 1, 2, 3, 4, 5, "tag", bytes.Repeat([]byte("abcd"), 16))
	f.Add("short", -1, 0, math.MaxInt, math.MinInt, 1<<32, "", make([]byte, 63))
	f.Fuzz(func(t *testing.T, key string, tenant, volume, block, slot, version int, tag string, b []byte) {
		h := api.Head{Tenant: tenant, Volume: volume, Block: block, Slot: slot, Version: version, Tag: tag}
		if len(key) != 16 || len(b) != 64 {
			refused(t, key, h, b, api.ErrArg)
			return
		}
		for _, n := range numbersOf(&h) {
			if *n < 0 {
				refused(t, key, h, b, api.ErrRange)
				return
			}
		}
		sealed, right := library(t, key, h, b)
		check(t, key, h, b, sealed, right)
		if tag != tagOf(key, h, b) {
			notOpened(t, key, h, b, api.ErrSeal)
		}
	})
}
