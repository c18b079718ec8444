package header_test

import (
	"bytes"
	"encoding/binary"
	"encoding/hex"
	"hash/crc32"
	"math"
	"math/rand"
	"slices"
	"strings"
	"testing"

	"stowage/api"
	"stowage/header"
	"stowage/table"
)

const someTag = "0123456789abcdef"

// random: the same in each run with one seed.
func random(seed int) *rand.Rand { return rand.New(rand.NewSource(int64(seed))) }

// someHead: any head that can be, the same in each run with one seed.
func someHead(seed int) api.Head {
	r := random(seed)
	tag := make([]byte, api.TagSize)
	r.Read(tag)
	return api.Head{
		Tenant:  1 + r.Intn(7),
		Volume:  r.Intn(8),
		Block:   r.Intn(32),
		Slot:    r.Intn(64),
		Version: max(1, r.Intn(1<<40+1)>>r.Intn(41)),
		Tag:     string(tag),
	}
}

// full: a head of which nothing is 0.
func full() api.Head {
	return api.Head{Tenant: 3, Volume: 7, Block: 9, Slot: 1, Version: 0x102030405, Tag: someTag}
}

// summed: a sector with the sum of what stands ahead of it.
func summed(b []byte) []byte {
	out := bytes.Clone(b)
	binary.BigEndian.PutUint32(out[60:], crc32.ChecksumIEEE(out[:60]))
	return out
}

// wordForWord: a head's sector as the document says it.
func wordForWord(h api.Head) []byte {
	b := []byte("SH")
	b = append(b, byte(h.Tenant), byte(h.Volume), byte(h.Block), byte(h.Slot))
	b = binary.BigEndian.AppendUint64(b, uint64(h.Version))
	b = append(b, h.Tag...)
	return summed(append(b, make([]byte, 34)...))
}

// fits: what Encode has to say of a head, number by number.
func fits(h api.Head) api.Errno {
	for _, c := range []struct{ least, n, most int }{{1, h.Tenant, 7}, {0, h.Volume, 7}, {0, h.Block, 31}, {0, h.Slot, 63}, {1, h.Version, 1099511627776}} {
		if c.n < c.least || c.n > c.most {
			return api.ErrRange
		}
	}
	if len(h.Tag) != 16 {
		return api.ErrArg
	}
	return api.OK
}

// told: the head that bytes are, field by field, or what they are else.
func told(b []byte) (api.Head, api.Errno) {
	if len(b) == 64 && strings.Trim(string(b), "\x00") == "" {
		return api.Head{}, api.ErrNone
	}
	if len(b) != 64 || string(b[:2]) != "SH" || binary.BigEndian.Uint32(b[60:]) != crc32.ChecksumIEEE(b[:60]) {
		return api.Head{}, api.ErrForm
	}
	h := api.Head{
		Tenant:  int(b[2]),
		Volume:  int(b[3]),
		Block:   int(b[4]),
		Slot:    int(b[5]),
		Version: int(binary.BigEndian.Uint64(b[6:])),
		Tag:     string(b[14:30]),
	}
	if strings.Trim(string(b[30:60]), "\x00") != "" || fits(h) != api.OK {
		return api.Head{}, api.ErrForm
	}
	return h, api.OK
}

// numbersOf: a head's numbers, to be changed one by one, and from where to where each may be.
func numbersOf(h *api.Head) (numbers []*int, least, most []int) {
	return []*int{&h.Tenant, &h.Volume, &h.Block, &h.Slot, &h.Version},
		[]int{1, 0, 0, 0, 1},
		[]int{api.MaxTenants, api.MaxVolumes - 1, api.MaxBlocks - 1, api.MaxSlots - 1, api.MaxTime}
}

// turned: a head with one other number.
func turned(h api.Head, which, n int) api.Head {
	numbers, _, _ := numbersOf(&h)
	*numbers[which] = n
	return h
}

func encoded(t *testing.T, h api.Head) []byte {
	t.Helper()
	b, e := header.Encode(h)
	if len(b) != api.Sector || e != api.OK {
		t.Fatalf("Encode(%+v) = %x, %d", h, b, e)
	}
	return b
}

// check: a head is written as wanted, and read again.
func check(t *testing.T, h api.Head, want []byte) {
	t.Helper()
	if b, e := header.Encode(h); !bytes.Equal(b, want) || e != api.OK {
		t.Errorf("Encode(%+v) = %x, %d, want %x", h, b, e, want)
	}
	if got, e := header.Decode(want); got != h || e != api.OK {
		t.Errorf("Decode(%x) = %+v, %d, want %+v", want, got, e, h)
	}
}

func notEncoded(t *testing.T, h api.Head, want api.Errno) {
	t.Helper()
	if b, e := header.Encode(h); b != nil || e != want {
		t.Errorf("Encode(%+v) = %x, %d, want %d", h, b, e, want)
	}
}

func notDecoded(t *testing.T, b []byte, want api.Errno) {
	t.Helper()
	if h, e := header.Decode(b); h != (api.Head{}) || e != want {
		t.Errorf("Decode(%x) = %+v, %d, want %d", b, h, e, want)
	}
}

// decodesAsTold: what Decode answers is what the bytes tell, field by field.
func decodesAsTold(t *testing.T, b []byte) {
	t.Helper()
	if h, e := told(b); e == api.OK {
		check(t, h, b)
	} else {
		notDecoded(t, b, e)
	}
}

// P18.1

func TestKnownSectors(t *testing.T) {
	for _, c := range []struct {
		h    api.Head
		want string
	}{
		{
			api.Head{Tenant: 7, Volume: 2, Block: 31, Slot: 63, Version: 1 << 40, Tag: someTag},
			"534807021f3f0000010000000000303132333435363738396162636465660000" +
				"00000000000000000000000000000000000000000000000000000000c8275882",
		},
		{
			api.Head{Tenant: 1, Version: 1, Tag: strings.Repeat("\x00", 16)},
			"5348010000000000000000000001000000000000000000000000000000000000" +
				"00000000000000000000000000000000000000000000000000000000a152aaa7",
		},
		{
			api.Head{Tenant: 3, Volume: 7, Block: 9, Slot: 1, Version: 0x102030405, Tag: strings.Repeat("\x00", 15) + "\xff"},
			"5348030709010000000102030405000000000000000000000000000000ff0000" +
				"00000000000000000000000000000000000000000000000000000000d00299ab",
		},
	} {
		want, err := hex.DecodeString(c.want)
		if err != nil {
			t.Fatal(err)
		}
		check(t, c.h, want)
	}
}

func TestHeadsAreWrittenAsItIsSaid(t *testing.T) {
	for seed := range 3000 {
		h := someHead(seed)
		check(t, h, wordForWord(h))
	}
}

func TestNumbersAtTheirEnds(t *testing.T) {
	for _, h := range []api.Head{full(), {Tenant: 1, Version: 1, Tag: someTag}} {
		_, least, most := numbersOf(&h)
		for i := range most {
			for _, n := range []int{least[i], least[i] + 1, most[i] / 2, most[i] - 1, most[i]} {
				check(t, turned(h, i, n), wordForWord(turned(h, i, n)))
			}
			for _, n := range []int{least[i] - 1, -1, -2, -most[i], most[i] + 1, 2*most[i] + 2, 1<<40 + 1, 1 << 56, -1 << 8, -1 << 56, math.MaxInt, math.MinInt, math.MinInt + 1} {
				notEncoded(t, turned(h, i, n), api.ErrRange)
			}
		}
	}
}

// A number that does not count modulo anything: beyond its byte it is no small one again.
func TestNumbersBeyondTheirBytes(t *testing.T) {
	h := full()
	for i, n := range []int{h.Tenant, h.Volume, h.Block, h.Slot, h.Version} {
		for _, bits := range []int{8, 16, 32, 40, 56, 62} {
			if i < 4 || bits >= 40 {
				notEncoded(t, turned(h, i, n+1<<bits), api.ErrRange)
			}
			notEncoded(t, turned(h, i, n-1<<max(bits, 33)), api.ErrRange)
		}
	}
}

// Each number in turn, over all of its bounds.
func TestAllNumbers(t *testing.T) {
	h := full()
	for i := range 4 {
		for n := -3; n < 300; n++ {
			turned := turned(h, i, n)
			if e := fits(turned); e == api.OK {
				check(t, turned, wordForWord(turned))
			} else {
				notEncoded(t, turned, e)
			}
		}
	}
	for bit := range 41 {
		for _, n := range []int{1 << bit, 1<<bit + 1, 1<<bit - 1} {
			turned := turned(h, 4, n)
			if fits(turned) == api.OK {
				check(t, turned, wordForWord(turned))
			} else {
				notEncoded(t, turned, api.ErrRange)
			}
		}
	}
}

func TestTags(t *testing.T) {
	h := full()
	for n := range 600 {
		h.Tag = strings.Repeat("t", n)
		if n == api.TagSize {
			check(t, h, wordForWord(h))
		} else {
			notEncoded(t, h, api.ErrArg)
		}
	}
	h.Tag = strings.Repeat("t", 1<<20)
	notEncoded(t, h, api.ErrArg)
	// Sixteen runes of two bytes are 32 bytes, eight of them are 16.
	h.Tag = strings.Repeat("ä", 16)
	notEncoded(t, h, api.ErrArg)
	for _, tag := range []string{strings.Repeat("ä", 8), strings.Repeat("\xff", 16), strings.Repeat("\x00", 16), "SH\x07\x02\x1f\x3f\x00\x00\x01\x00\x00\x00\x00\x00SH"} {
		h.Tag = tag
		check(t, h, wordForWord(h))
	}
}

// R2: ErrRange is named ahead of ErrArg.
func TestWhichErrorGoesAhead(t *testing.T) {
	for _, tag := range []string{"", "x", someTag[1:], someTag + "x"} {
		h := full()
		h.Tag = tag
		_, least, most := numbersOf(&h)
		for i := range most {
			for _, n := range []int{least[i] - 1, most[i] + 1, math.MinInt, math.MaxInt} {
				notEncoded(t, turned(h, i, n), api.ErrRange)
			}
		}
	}
	notEncoded(t, api.Head{}, api.ErrRange)
}

func TestSectorsOfBytes0(t *testing.T) {
	for n := range 300 {
		want := api.ErrForm
		if n == api.Sector {
			want = api.ErrNone
		}
		notDecoded(t, make([]byte, n), want)
	}
	notDecoded(t, nil, api.ErrForm)
	room := bytes.Repeat([]byte{7}, 200)
	clear(room[50:114])
	notDecoded(t, room[50:114], api.ErrNone)
	notDecoded(t, room[49:113], api.ErrForm)
	notDecoded(t, room[51:115], api.ErrForm)
	// One bit is enough to be another one.
	for bit := range 8 * api.Sector {
		b := make([]byte, api.Sector)
		b[bit/8] = 1 << (bit % 8)
		notDecoded(t, b, api.ErrForm)
	}
}

func TestSizesThatAreNoSector(t *testing.T) {
	b := encoded(t, full())
	room := append(bytes.Clone(b), b...)
	for n := range room {
		if n != api.Sector {
			notDecoded(t, room[:n:n], api.ErrForm)
			notDecoded(t, room[:n], api.ErrForm)
		}
	}
	for i := 1; i < api.Sector; i++ {
		notDecoded(t, b[i:], api.ErrForm)
		notDecoded(t, room[i:i+api.Sector], api.ErrForm)
	}
	notDecoded(t, append(bytes.Clone(b), 0), api.ErrForm)
	notDecoded(t, append([]byte{0}, b...), api.ErrForm)
	notDecoded(t, make([]byte, 1<<20), api.ErrForm)
}

func TestSectorsOfOneByte(t *testing.T) {
	for x := 1; x < 256; x++ {
		b := bytes.Repeat([]byte{byte(x)}, api.Sector)
		notDecoded(t, b, api.ErrForm)
		notDecoded(t, summed(b), api.ErrForm)
	}
	notDecoded(t, summed(make([]byte, api.Sector)), api.ErrForm)
}

func TestEachTurnedBitIsSeen(t *testing.T) {
	for _, h := range []api.Head{full(), someHead(1), someHead(2), {Tenant: 1, Version: 1, Tag: someTag}} {
		b := encoded(t, h)
		for bit := range 8 * len(b) {
			other := bytes.Clone(b)
			other[bit/8] ^= 1 << (bit % 8)
			notDecoded(t, other, api.ErrForm)
		}
	}
}

// With the right sum a changed byte makes another head, or none: its mark, numbers out of their bounds, and bytes that
// have to be 0 and are not.
func TestARightSumAloneMakesNoHead(t *testing.T) {
	none := 0
	for _, h := range []api.Head{full(), {Tenant: 1, Version: 1, Tag: strings.Repeat("\x00", 16)}, {Tenant: 7, Volume: 7, Block: 31, Slot: 63, Version: 1 << 40, Tag: someTag}} {
		b := wordForWord(h)
		for i := range 60 {
			for x := range 256 {
				other := bytes.Clone(b)
				other[i] = byte(x)
				other = summed(other)
				decodesAsTold(t, other)
				if _, e := told(other); e != api.OK {
					none++
				}
			}
		}
	}
	if none == 0 || none == 3*60*256 {
		t.Errorf("of all changes %d make no head", none)
	}
}

func TestFaultsUnderARightSum(t *testing.T) {
	turn := func(at int, with ...byte) []byte {
		b := wordForWord(full())
		copy(b[at:], with)
		return summed(b)
	}
	for what, b := range map[string][]byte{
		"another mark":             turn(0, 'S', 'L'),
		"a small mark":             turn(0, 's', 'h'),
		"a turned mark":            turn(0, 'H', 'S'),
		"no mark":                  turn(0, 0, 0),
		"tenant 0":                 turn(2, 0),
		"tenant 8":                 turn(2, 8),
		"tenant 255":               turn(2, 255),
		"volume 8":                 turn(3, 8),
		"volume 255":               turn(3, 255),
		"block 32":                 turn(4, 32),
		"block 255":                turn(4, 255),
		"slot 64":                  turn(5, 64),
		"slot 255":                 turn(5, 255),
		"version 0":                turn(6, 0, 0, 0, 0, 0, 0, 0, 0),
		"version 2^40 + 1":         turn(6, 0, 0, 1, 0, 0, 0, 0, 1),
		"version 2^41":             turn(6, 0, 0, 2, 0, 0, 0, 0, 0),
		"version 2^63":             turn(6, 128, 0, 0, 0, 0, 0, 0, 1),
		"version 2^64 - 1":         turn(6, 255, 255, 255, 255, 255, 255, 255, 255),
		"a byte behind the tag":    turn(30, 1),
		"a byte far behind it":     turn(45, 128),
		"a byte ahead of the sum":  turn(59, 1),
		"a tag, and another":       turn(30, []byte(someTag)...),
		"a version, in small ends": turn(6, 5, 4, 3, 2, 1, 0, 0, 0),
		"a tag, shifted by two":    turn(14, append([]byte{0, 0}, someTag...)...),
	} {
		if h, e := header.Decode(b); h != (api.Head{}) || e != api.ErrForm {
			t.Errorf("%s: %+v, %d", what, h, e)
		}
	}
}

func TestSumsThatAreNone(t *testing.T) {
	b := wordForWord(full())
	sum := binary.BigEndian.Uint32(b[60:])
	for _, other := range []uint32{0, ^sum, sum + 1, sum - 1, sum<<8 | sum>>24, crc32.ChecksumIEEE(b[:59]), crc32.ChecksumIEEE(b[2:60]), crc32.ChecksumIEEE(b[:30]), crc32.ChecksumIEEE(b)} {
		changed := bytes.Clone(b)
		binary.BigEndian.PutUint32(changed[60:], other)
		notDecoded(t, changed, api.ErrForm)
	}
	changed := bytes.Clone(b)
	binary.LittleEndian.PutUint32(changed[60:], sum)
	notDecoded(t, changed, api.ErrForm)
}

// P18.2

// town: a table of six slots: tenant 2 has slots 0, 1 and 4, tenant 5 slots 2 and 5, slot 3 is nobody's. Tenant 2 has
// volumes 1 and 6, tenant 5 volumes 3 and 4, of which 4 has no blocks.
func town() api.Table {
	return api.Table{
		Tenants: []api.Tenant{{Id: 2, Quota: 4, Burst: 1, Key: someTag}, {Id: 5, Quota: 2, Burst: 1, Key: someTag}},
		Volumes: []api.Volume{
			{Id: 1, Tenant: 2, Blocks: 3, Base: 4},
			{Id: 3, Tenant: 5, Blocks: 2},
			{Id: 4, Tenant: 5, Base: 9},
			{Id: 6, Tenant: 2, Blocks: 32},
		},
		Owners: []int{2, 2, 5, 0, 2, 5},
	}
}

// holds: as many heads as a table has slots, of which these stand in their slots; all others are without anything.
func holds(at api.Table, list ...api.Head) []api.Head {
	heads := make([]api.Head, len(at.Owners))
	for _, h := range list {
		heads[h.Slot] = h
	}
	return heads
}

// put: the head of a slot in the town, of its owner.
func put(slot, volume, block, version int) api.Head {
	return api.Head{Tenant: town().Owners[slot], Volume: volume, Block: block, Slot: slot, Version: version, Tag: someTag}
}

// good: as the document says it.
func good(at api.Table, slot int, h api.Head) bool {
	if h.Slot != slot || h.Tenant < 1 || at.Owners[slot] != h.Tenant {
		return false
	}
	for _, v := range at.Volumes {
		if v.Id == h.Volume {
			return v.Tenant == h.Tenant && h.Block < v.Blocks && h.Version >= 1
		}
	}
	return false
}

// said: what Newest has to answer of a sound table and as many heads as it has slots.
func said(at api.Table, heads []api.Head) (counting []api.Head, last []int) {
	type named struct{ volume, block int }
	sorted := map[named][]api.Head{}
	written := map[named]int{}
	for slot, h := range heads {
		if good(at, slot, h) {
			sorted[named{h.Volume, h.Block}] = append(sorted[named{h.Volume, h.Block}], h)
			written[named{h.Volume, h.Version}]++
		}
	}
	for _, v := range at.Volumes {
		n := v.Base
		for written[named{v.Id, n + 1}] > 0 {
			n++
		}
		last = append(last, n)
		for block := 0; block < v.Blocks; block++ {
			list := slices.DeleteFunc(sorted[named{v.Id, block}], func(h api.Head) bool { return h.Version > n })
			slices.SortStableFunc(list, func(a, b api.Head) int { return b.Version - a.Version })
			if len(list) > 0 {
				counting = append(counting, list[0])
			}
		}
	}
	return counting, last
}

// tells: Newest answers these.
func tells(t *testing.T, at api.Table, heads, counting []api.Head, last []int) {
	t.Helper()
	got, reached, e := header.Newest(at, heads)
	if e != api.OK || !slices.Equal(got, counting) || !slices.Equal(reached, last) {
		t.Errorf("Newest(%+v, %+v) = %+v, %v, %d, want %+v, %v", at, heads, got, reached, e, counting, last)
	}
}

// tellsAsSaid: Newest answers what the document says.
func tellsAsSaid(t *testing.T, at api.Table, heads []api.Head) {
	t.Helper()
	counting, last := said(at, heads)
	tells(t, at, heads, counting, last)
}

func refused(t *testing.T, what string, at api.Table, heads []api.Head) {
	t.Helper()
	if counting, last, e := header.Newest(at, heads); len(counting) != 0 || len(last) != 0 || e != api.ErrForm {
		t.Errorf("%s: %+v, %v, %d", what, counting, last, e)
	}
}

func TestNoHeads(t *testing.T) {
	at := town()
	tells(t, at, holds(at), nil, []int{4, 0, 9, 0})
	for slots := 1; slots <= api.MaxSlots; slots++ {
		empty, e := table.New(slots)
		if e != api.OK {
			t.Fatal(e)
		}
		tells(t, empty, holds(empty), nil, nil)
	}
}

// Tables that are not sound, and numbers of heads that are not that of the slots.
func TestNewestRefuses(t *testing.T) {
	at := town()
	whole := holds(at, put(0, 1, 0, 5))
	for n := range 200 {
		if n != len(whole) {
			refused(t, "a number of heads", at, append(slices.Clone(whole), make([]api.Head, 200)...)[:n])
		}
	}
	refused(t, "no heads", at, nil)
	refused(t, "nothing", api.Table{}, nil)
	refused(t, "no slots", api.Table{Tenants: at.Tenants}, nil)
	refused(t, "no slots, and a head", api.Table{}, whole[:1])
	refused(t, "too many slots", api.Table{Owners: make([]int, 65)}, make([]api.Head, 65))
	refused(t, "very many slots", api.Table{Owners: make([]int, 1<<20)}, make([]api.Head, 1<<20))
	for what, spoil := range map[string]func(*api.Table){
		"a tenant 0":                 func(x *api.Table) { x.Tenants[0].Id = 0 },
		"a tenant twice":             func(x *api.Table) { x.Tenants[1].Id = 2 },
		"tenants that fall":          func(x *api.Table) { x.Tenants[0], x.Tenants[1] = x.Tenants[1], x.Tenants[0] },
		"a quota of 0":               func(x *api.Table) { x.Tenants[1].Quota = 0 },
		"a small quota":              func(x *api.Table) { x.Tenants[0].Quota = 2 },
		"great quotas":               func(x *api.Table) { x.Tenants[0].Quota = 5 },
		"a rate below 0":             func(x *api.Table) { x.Tenants[0].Rate = -1 },
		"no burst":                   func(x *api.Table) { x.Tenants[0].Burst = 0 },
		"a short key":                func(x *api.Table) { x.Tenants[0].Key = "x" },
		"a volume 8":                 func(x *api.Table) { x.Volumes[3].Id = 8 },
		"a volume twice":             func(x *api.Table) { x.Volumes[1].Id = 1 },
		"volumes that fall":          func(x *api.Table) { x.Volumes[0], x.Volumes[1] = x.Volumes[1], x.Volumes[0] },
		"a volume of nobody":         func(x *api.Table) { x.Volumes[0].Tenant = 0 },
		"a volume of one not there":  func(x *api.Table) { x.Volumes[0].Tenant = 3 },
		"blocks below 0":             func(x *api.Table) { x.Volumes[0].Blocks = -1 },
		"33 blocks":                  func(x *api.Table) { x.Volumes[0].Blocks = 33 },
		"very many blocks":           func(x *api.Table) { x.Volumes[0].Blocks = math.MaxInt },
		"a base below 0":             func(x *api.Table) { x.Volumes[0].Base = -1 },
		"a great base":               func(x *api.Table) { x.Volumes[0].Base = math.MaxInt },
		"an owner that is not there": func(x *api.Table) { x.Owners[3] = 1 },
		"an owner below 0":           func(x *api.Table) { x.Owners[3] = -2 },
		"an owner of too much":       func(x *api.Table) { x.Owners[3] = 5 },
	} {
		bad := town()
		spoil(&bad)
		refused(t, what, bad, whole)
		refused(t, what, bad, nil)
	}
	tells(t, at, whole, whole[:1], []int{5, 0, 9, 0})
}

// Each thing that makes a head good, one by one.
func TestGoodHeads(t *testing.T) {
	at := town()
	is := put(1, 1, 2, 5)
	alone := func(slot int, h api.Head) []api.Head {
		heads := holds(at)
		heads[slot] = h
		return heads
	}
	tells(t, at, alone(1, is), []api.Head{is}, []int{5, 0, 9, 0})
	with := func(change func(*api.Head)) api.Head {
		h := is
		change(&h)
		return h
	}
	for what, c := range map[string]struct {
		slot int
		h    api.Head
	}{
		"in another slot of the tenant": {0, is},
		"in a slot of another tenant":   {2, is},
		"in a slot of nobody":           {3, is},
		"of another slot":               {1, with(func(h *api.Head) { h.Slot = 0 })},
		"of slot -1":                    {1, with(func(h *api.Head) { h.Slot = -1 })},
		"of slot 1 + 2^32":              {1, with(func(h *api.Head) { h.Slot = 1<<32 + 1 })},
		"of nobody":                     {1, with(func(h *api.Head) { h.Tenant = 0 })},
		"of another tenant":             {1, with(func(h *api.Head) { h.Tenant = 5 })},
		"of a tenant that is not there": {1, with(func(h *api.Head) { h.Tenant = 1 })},
		"of a tenant beyond all":        {1, with(func(h *api.Head) { h.Tenant = math.MaxInt })},
		"for nobody, of nobody":         {3, with(func(h *api.Head) { h.Tenant, h.Slot = 0, 3 })},
		"for nobody, of a tenant":       {3, with(func(h *api.Head) { h.Slot = 3 })},
		"for another, of the tenant":    {2, with(func(h *api.Head) { h.Slot = 2 })},
		"for another, of that one":      {2, with(func(h *api.Head) { h.Slot, h.Tenant = 2, 5 })},
		"of a volume that is not there": {1, with(func(h *api.Head) { h.Volume = 0 })},
		"of volume 2":                   {1, with(func(h *api.Head) { h.Volume = 2 })},
		"of volume 7":                   {1, with(func(h *api.Head) { h.Volume = 7 })},
		"of volume -1":                  {1, with(func(h *api.Head) { h.Volume = -1 })},
		"of volume 2^40":                {1, with(func(h *api.Head) { h.Volume = 1 << 40 })},
		"of another's volume":           {1, with(func(h *api.Head) { h.Volume, h.Block, h.Version = 3, 1, 1 })},
		"of a block too many":           {1, with(func(h *api.Head) { h.Block = 3 })},
		"of block 2^40":                 {1, with(func(h *api.Head) { h.Block = 1 << 40 })},
		"of the greatest block":         {1, with(func(h *api.Head) { h.Block = math.MaxInt })},
		"of version 0":                  {1, with(func(h *api.Head) { h.Version = 0 })},
		"of version -5":                 {1, with(func(h *api.Head) { h.Version = -5 })},
		"of the least version":          {1, with(func(h *api.Head) { h.Version = math.MinInt })},
		"without anything":              {1, api.Head{}},
		"with a slot alone":             {1, api.Head{Slot: 1}},
	} {
		if counting, last, e := header.Newest(at, alone(c.slot, c.h)); e != api.OK || len(counting) != 0 || !slices.Equal(last, []int{4, 0, 9, 0}) {
			t.Errorf("%s: %+v, %v, %d", what, counting, last, e)
		}
		if good(at, c.slot, c.h) {
			t.Errorf("%s: good", what)
		}
	}
	// The volume of no blocks has no good head, whoever owns the slot.
	tells(t, at, holds(at, put(2, 4, 0, 10)), nil, []int{4, 0, 9, 0})
}

// What a head's tag is, is not asked: it is answered as it is.
func TestTagsAreAnsweredAsTheyAre(t *testing.T) {
	at := town()
	for _, tag := range []string{"", "x", someTag, "\xff", strings.Repeat("long", 1000)} {
		h := put(4, 6, 31, 1)
		h.Tag = tag
		tells(t, at, holds(at, h), []api.Head{h}, []int{4, 0, 9, 1})
	}
}

// By the words a block below 0 is below the volume's blocks: its version is there, but the volume has no such block.
func TestBlocksBelow0(t *testing.T) {
	at := town()
	for _, block := range []int{-1, -2, math.MinInt} {
		tells(t, at, holds(at, put(0, 1, block, 5), put(1, 1, 0, 6)), []api.Head{put(1, 1, 0, 6)}, []int{6, 0, 9, 0})
		tells(t, at, holds(at, put(2, 4, block, 10)), nil, []int{4, 0, 10, 0})
	}
}

func TestHowFarVersionsGo(t *testing.T) {
	all := api.Table{
		Tenants: []api.Tenant{{Id: 1, Quota: 6, Burst: 1, Key: someTag}},
		Volumes: []api.Volume{{Id: 0, Tenant: 1, Blocks: 6}},
		Owners:  []int{1, 1, 1, 1, 1, 1},
	}
	for _, c := range []struct {
		base     int
		versions []int
		last     int
	}{
		{0, nil, 0},
		{0, []int{1}, 1},
		{0, []int{2}, 0},
		{0, []int{1, 2, 3, 4, 5, 6}, 6},
		{0, []int{6, 5, 4, 3, 2, 1}, 6},
		{0, []int{3, 1, 4, 1, 5, 9}, 1},
		{0, []int{2, 1, 2, 1, 3, 3}, 3},
		{0, []int{2, 3, 4, 5, 6, 7}, 0},
		{3, nil, 3},
		{3, []int{1, 2, 3}, 3},
		{3, []int{1, 2, 3, 4}, 4},
		{3, []int{4, 5, 7}, 5},
		{3, []int{5, 6, 7}, 3},
		{6, []int{1, 2, 3, 4, 5}, 6},
		{6, []int{1, 2, 8, 4, 7, 5}, 8},
		{1<<40 - 1, []int{1 << 40}, 1 << 40},
		// Of a good head's version no greatest one is said.
		{1 << 40, []int{1, 1<<40 + 1, 1<<40 + 2, 1<<40 + 4}, 1<<40 + 2},
		{1 << 40, []int{1 << 40, math.MaxInt}, 1 << 40},
		{0, []int{math.MaxInt, 1}, 1},
	} {
		at := all
		at.Volumes = []api.Volume{{Id: 0, Tenant: 1, Blocks: 6, Base: c.base}}
		heads := holds(at)
		var want []api.Head
		for slot, version := range c.versions {
			heads[slot] = api.Head{Tenant: 1, Block: slot, Slot: slot, Version: version}
			if version <= c.last {
				want = append(want, heads[slot])
			}
		}
		tells(t, at, heads, want, []int{c.last})
		tellsAsSaid(t, at, heads)
	}
}

// Versions go by volumes: what another volume, or another tenant, has is none of it.
func TestEachVolumeByItself(t *testing.T) {
	at := town()
	tells(t, at,
		holds(at, put(0, 1, 0, 5), put(1, 6, 0, 6), put(4, 1, 1, 7)),
		[]api.Head{put(0, 1, 0, 5)}, []int{5, 0, 9, 0})
	tells(t, at,
		holds(at, put(0, 6, 0, 2), put(1, 1, 0, 1), put(2, 3, 0, 1), put(4, 1, 1, 5), put(5, 3, 1, 3)),
		[]api.Head{put(1, 1, 0, 1), put(4, 1, 1, 5), put(2, 3, 0, 1)}, []int{5, 1, 9, 0})
}

// A version that is there once for all blocks is there, also by a head that does not count itself.
func TestVersionsOfAllBlocks(t *testing.T) {
	at := town()
	tells(t, at,
		holds(at, put(0, 1, 2, 5), put(1, 1, 2, 6), put(4, 1, 2, 7)),
		[]api.Head{put(4, 1, 2, 7)}, []int{7, 0, 9, 0})
	// A head that is not good fills no gap.
	heads := holds(at, put(0, 1, 2, 5), put(1, 1, 3, 6), put(4, 1, 2, 7))
	tells(t, at, heads, heads[:1], []int{5, 0, 9, 0})
}

func TestTheNewestOfABlock(t *testing.T) {
	at := town()
	for _, c := range []struct {
		versions [3]int
		which    int
		last     int
	}{
		{[3]int{1, 2, 3}, 4, 4},
		{[3]int{3, 2, 1}, 0, 4},
		{[3]int{1, 4, 2}, 1, 4},
		{[3]int{4, 5, 6}, 4, 6},
		{[3]int{6, 4, 5}, 0, 6},
		{[3]int{4, 6, 7}, 0, 4},
		{[3]int{7, 3, 5}, 4, 5},
		{[3]int{6, 8, 1}, 4, 4},
		{[3]int{5, 8, 7}, 0, 5},
		// Of several the first one.
		{[3]int{2, 2, 2}, 0, 4},
		{[3]int{1, 2, 2}, 1, 4},
		{[3]int{5, 5, 4}, 0, 5},
		{[3]int{4, 5, 5}, 1, 5},
		{[3]int{7, 5, 5}, 1, 5},
	} {
		heads := holds(at)
		for i, slot := range []int{0, 1, 4} {
			heads[slot] = put(slot, 1, 1, c.versions[i])
		}
		tells(t, at, heads, []api.Head{heads[c.which]}, []int{c.last, 0, 9, 0})
	}
	tells(t, at, holds(at, put(0, 1, 1, 6), put(1, 1, 1, 7), put(4, 1, 1, 8)), nil, []int{4, 0, 9, 0})
}

// By volumes, and by blocks in each: not by slots, nor by versions.
func TestTheirOrder(t *testing.T) {
	at := town()
	heads := holds(at, put(0, 6, 31, 1), put(1, 6, 0, 2), put(2, 3, 1, 2), put(4, 1, 2, 3), put(5, 3, 0, 1))
	tells(t, at, heads, []api.Head{heads[4], heads[5], heads[2], heads[1], heads[0]}, []int{4, 2, 9, 2})
	heads = holds(at, put(0, 1, 2, 5), put(1, 1, 0, 6), put(4, 1, 1, 1))
	tells(t, at, heads, []api.Head{heads[1], heads[4], heads[0]}, []int{6, 0, 9, 0})
}

// As many slots as there may be, all of one volume: each block twice.
func TestAllSlots(t *testing.T) {
	at := api.Table{
		Tenants: []api.Tenant{{Id: 7, Quota: 64, Rate: 1, Burst: 1, Key: someTag, Dying: true}},
		Volumes: []api.Volume{{Id: 7, Tenant: 7, Blocks: 32, Base: 1<<40 - 1}},
		Owners:  slices.Repeat([]int{7}, 64),
	}
	heads := make([]api.Head, 64)
	var want []api.Head
	for slot := range heads {
		heads[slot] = api.Head{Tenant: 7, Volume: 7, Block: 31 - slot%32, Slot: slot, Version: 1<<40 + slot, Tag: someTag}
	}
	for block := range 32 {
		want = append(want, heads[63-block])
	}
	tells(t, at, heads, want, []int{1<<40 + 63})
	heads[40].Version = 1 << 41
	tellsAsSaid(t, at, heads)
	// Without that of slot 40 its block, 23, has the one of slot 8, and so have those behind it.
	_, last, _ := header.Newest(at, heads)
	if !slices.Equal(last, []int{1<<40 + 39}) {
		t.Errorf("%v", last)
	}
}

// All heads of a few in each of three slots, in a table of two tenants.
func TestAllFewHeads(t *testing.T) {
	at := api.Table{
		Tenants: []api.Tenant{{Id: 1, Quota: 2, Burst: 1, Key: someTag}, {Id: 2, Quota: 1, Burst: 1, Key: someTag}},
		Volumes: []api.Volume{{Id: 0, Tenant: 1, Blocks: 2}, {Id: 1, Tenant: 2, Blocks: 1, Base: 1}, {Id: 2, Tenant: 1, Blocks: 1}},
		Owners:  []int{1, 1, 2},
	}
	var choices [3][]api.Head
	for slot := range choices {
		choices[slot] = append(choices[slot], api.Head{})
		for tenant := 1; tenant < 3; tenant++ {
			for volume := range 3 {
				for block := range 2 {
					for version := 1; version < 4; version++ {
						choices[slot] = append(choices[slot], api.Head{Tenant: tenant, Volume: volume, Block: block, Slot: slot, Version: version})
					}
				}
			}
		}
	}
	for _, a := range choices[0] {
		for _, b := range choices[1] {
			for _, c := range choices[2] {
				tellsAsSaid(t, at, []api.Head{a, b, c})
			}
		}
	}
}

// someTable: any sound table, made by changes that may be refused.
func someTable(t *testing.T, r *rand.Rand) api.Table {
	t.Helper()
	at, e := table.New(1 + r.Intn(min(api.MaxSlots, 1+r.Intn(64))))
	if e != api.OK {
		t.Fatal(e)
	}
	try := func(list ...api.Rec) {
		if next, e := table.Apply(at, list...); e == api.OK {
			at = next
		}
	}
	for range 1 + r.Intn(6) {
		try(api.Rec{Kind: api.RecTenant, A: 1 + r.Intn(7), B: 1 + r.Intn(len(at.Owners)), C: r.Intn(9), D: 1, Key: someTag})
	}
	for range r.Intn(12) {
		volume := r.Intn(8)
		try(api.Rec{Kind: api.RecVolume, A: volume, B: 1 + r.Intn(7), C: r.Intn(1 + r.Intn(33))})
		try(api.Rec{Kind: api.RecBase, A: volume, B: r.Intn(1 + r.Intn(5))})
	}
	for range r.Intn(100) {
		try(api.Rec{Kind: api.RecOwn, A: r.Intn(len(at.Owners)), B: r.Intn(8)})
	}
	for range r.Intn(3) {
		try(api.Rec{Kind: api.RecDying, A: 1 + r.Intn(7)})
	}
	return at
}

// someHeads: of a table's slots, most of them good or nearly so.
func someHeads(r *rand.Rand, at api.Table) []api.Head {
	heads := make([]api.Head, len(at.Owners))
	few := 1 + r.Intn(20)
	written := map[int]int{}
	for slot := range heads {
		h := api.Head{Tenant: at.Owners[slot], Volume: r.Intn(8), Slot: slot, Version: 1 + r.Intn(few), Tag: string(rune('a' + slot))}
		if len(at.Volumes) > 0 {
			v := at.Volumes[r.Intn(len(at.Volumes))]
			h.Volume, h.Block, h.Version = v.Id, r.Intn(v.Blocks+1), max(0, v.Base-2)+1+r.Intn(few)
			if v.Tenant == h.Tenant && r.Intn(4) > 0 {
				written[v.Id]++
				h.Version = v.Base + written[v.Id]
			}
		}
		if r.Intn(8) == 0 {
			h = turned(h, r.Intn(5), []int{-1, 0, 1, 2, 3, slot, slot + 1, math.MaxInt, math.MinInt}[r.Intn(9)])
		}
		heads[slot] = h
	}
	return heads
}

func TestManyHeads(t *testing.T) {
	counted, gone, far := 0, 0, 0
	for seed := range 4000 {
		r := random(seed)
		at := someTable(t, r)
		heads := someHeads(r, at)
		tellsAsSaid(t, at, heads)
		counting, last := said(at, heads)
		counted += len(counting)
		for i, v := range at.Volumes {
			far += last[i] - v.Base
		}
		for slot, h := range heads {
			if good(at, slot, h) && !slices.Contains(counting, h) {
				gone++
			}
		}
	}
	if counted < 1000 || gone < 1000 || far < 1000 {
		t.Errorf("%d heads count, %d good ones do not, and versions go %d far", counted, gone, far)
	}
}

// What Encode wrote and Decode read is what Newest takes; sectors of bytes 0 are heads without anything.
func TestFromSectors(t *testing.T) {
	at := town()
	heads := holds(at, put(0, 1, 2, 5), put(2, 3, 1, 1), put(4, 1, 2, 6))
	read := make([]api.Head, len(heads))
	for slot, h := range heads {
		b := make([]byte, api.Sector)
		if h != (api.Head{}) {
			b = encoded(t, h)
		}
		read[slot], _ = header.Decode(b)
	}
	tells(t, at, read, []api.Head{heads[4], heads[2]}, []int{6, 1, 9, 0})
}

// R4, R5

func TestWhatIsHandedInIsLeft(t *testing.T) {
	room := slices.Concat(bytes.Repeat([]byte{9}, 20), wordForWord(full()), bytes.Repeat([]byte{9}, 100))
	before := bytes.Clone(room)
	header.Decode(room[20:84])
	header.Decode(room[20:83])
	header.Decode(room[20:90])
	if !bytes.Equal(room, before) {
		t.Error("a sector, or what stands around it, was changed")
	}
	at, kept := town(), town()
	heads := append(holds(at, put(4, 1, 2, 6), put(2, 3, 1, 1), put(0, 1, 0, 5)), full(), full())
	same := slices.Clone(heads)
	header.Newest(at, heads[:6])
	header.Newest(at, heads[:5])
	if !slices.Equal(heads, same) {
		t.Error("heads, or their spare room, were changed")
	}
	if !slices.Equal(at.Tenants, kept.Tenants) || !slices.Equal(at.Volumes, kept.Volumes) || !slices.Equal(at.Owners, kept.Owners) {
		t.Error("a table was changed")
	}
}

// mark: the same thing all over a list and its spare room.
func mark[T any](list []T, with T) {
	list = list[:cap(list)]
	for i := range list {
		list[i] = with
	}
}

func TestAnswersAreNew(t *testing.T) {
	one, two := encoded(t, full()), encoded(t, full())
	mark(one, 255)
	if !bytes.Equal(two, wordForWord(full())) {
		t.Error("sectors share their memory")
	}
	h, _ := header.Decode(two)
	mark(two, 255)
	if h != full() {
		t.Error("a head shares its sector's memory")
	}
	check(t, full(), wordForWord(full()))
}

func TestAnswersOfNewestAreNew(t *testing.T) {
	at, heads := town(), holds(town(), put(0, 1, 2, 5), put(2, 3, 1, 1), put(4, 1, 0, 6))
	counting, last := said(at, heads)
	given := slices.Clone(heads)
	one, reached, _ := header.Newest(at, heads)
	two, again, _ := header.Newest(at, heads)
	mark(one, full())
	mark(reached, -7)
	if !slices.Equal(two, counting) || !slices.Equal(again, last) {
		t.Errorf("answers share their memory: %+v, %v", two, again)
	}
	if !slices.Equal(heads, given) || !slices.Equal(at.Owners, town().Owners) {
		t.Error("answers share the memory of what was handed in")
	}
	mark(heads, full())
	mark(at.Volumes, api.Volume{})
	if !slices.Equal(two, counting) || !slices.Equal(again, last) {
		t.Errorf("answers share the memory of what was handed in: %+v, %v", two, again)
	}
}

func TestTheSameIsAnsweredEachTime(t *testing.T) {
	at := town()
	heads := holds(at, put(0, 1, 2, 5), put(2, 3, 1, 1), put(4, 1, 0, 6), put(5, 3, 0, 2))
	counting, last := said(at, heads)
	for seed := range 50 {
		r := random(seed)
		other := someTable(t, r)
		header.Newest(other, someHeads(r, other))
		header.Encode(someHead(seed))
		notDecoded(t, make([]byte, api.Sector), api.ErrNone)
		refused(t, "too few", at, heads[1:])
		tells(t, at, heads, counting, last)
		check(t, full(), wordForWord(full()))
	}
}

func FuzzHeadsAgree(f *testing.F) {
	f.Add(3, 7, 9, 1, 0x102030405, someTag, 1, wordForWord(full()))
	f.Add(0, 8, 32, 64, 1<<40+1, "short", 2, make([]byte, 64))
	f.Add(-1, -1, -1, -1, 0, "", 3, make([]byte, 63))
	f.Fuzz(func(t *testing.T, tenant, volume, block, slot, version int, tag string, seed int, raw []byte) {
		h := api.Head{Tenant: tenant, Volume: volume, Block: block, Slot: slot, Version: version, Tag: tag}
		if e := fits(h); e != api.OK {
			notEncoded(t, h, e)
		} else {
			check(t, h, wordForWord(h))
		}
		decodesAsTold(t, raw)
		if len(raw) == api.Sector {
			decodesAsTold(t, summed(raw))
		}
		r := random(seed)
		at := someTable(t, r)
		heads := someHeads(r, at)
		for i, x := range raw {
			heads[i%len(heads)] = turned(heads[i%len(heads)], int(x)%5, int(x)/5-3)
		}
		heads[(slot%len(heads)+len(heads))%len(heads)] = h
		tellsAsSaid(t, at, heads)
	})
}
