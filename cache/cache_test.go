package cache_test

import (
	"bytes"
	"encoding/binary"
	"math"
	"math/rand"
	"reflect"
	"slices"
	"testing"

	"stowage/api"
	"stowage/cache"
	"stowage/disk"
	"stowage/header"
	"stowage/seal"
	"stowage/vault"
)

// Where things are by the document's words: the fast disk's slots begin behind the two areas; the slow disk has all blocks.
const (
	areas   = 384
	allSlow = 256
)

func headAt(slot int) int   { return areas + 2*slot }
func sealedAt(slot int) int { return areas + 2*slot + 1 }

// random: the same in each run with one seed.
func random(seed int) *rand.Rand { return rand.New(rand.NewSource(int64(seed))) }

// keyOf: each tenant has another one.
func keyOf(id int) string { return "key of tenant " + string(rune('0'+id)) + "." }

func tenant(id, quota int) api.Rec {
	return api.Rec{Kind: api.RecTenant, A: id, B: quota, C: 1, D: 1, Key: keyOf(id)}
}
func quota(id, n int) api.Rec { return api.Rec{Kind: api.RecQuota, A: id, B: n} }
func dying(id int) api.Rec    { return api.Rec{Kind: api.RecDying, A: id} }
func volume(id, of, blocks int) api.Rec {
	return api.Rec{Kind: api.RecVolume, A: id, B: of, C: blocks}
}
func base(id, n int) api.Rec   { return api.Rec{Kind: api.RecBase, A: id, B: n} }
func own(slot, of int) api.Rec { return api.Rec{Kind: api.RecOwn, A: slot, B: of} }

// text: of a number, each another one.
func text(n int) []byte {
	b := bytes.Repeat([]byte{byte(n*37 + 11)}, api.Sector)
	binary.BigEndian.PutUint64(b[28:], uint64(n))
	return b
}

// first: what stands on a rig's slow disk ahead of all.
func first(volume, block int) []byte { return text(-1 - volume*32 - block) }

func made(t testing.TB, sectors int) *disk.Disk {
	t.Helper()
	d, e := disk.New(sectors)
	if e != api.OK {
		t.Fatalf("disk.New(%d): %d", sectors, e)
	}
	return d
}

func write(t testing.TB, d *disk.Disk, sector int, b []byte) {
	t.Helper()
	if e := d.Write(sector, b); e != api.OK {
		t.Fatalf("sector %d is not written: %d", sector, e)
	}
}

func flush(t testing.TB, d *disk.Disk) {
	t.Helper()
	if e := d.Flush(); e != api.OK {
		t.Fatalf("not flushed: %d", e)
	}
}

func sector(t testing.TB, d *disk.Disk, n int) []byte {
	t.Helper()
	b, e := d.Read(n)
	if e != api.OK {
		t.Fatalf("sector %d is not read: %d", n, e)
	}
	return b
}

// lay: changes of the table that a fast disk keeps, ahead of any cache.
func lay(t testing.TB, fast *disk.Disk, slots int, list ...api.Rec) {
	t.Helper()
	v, e := vault.Open(fast, slots)
	if e != api.OK {
		t.Fatalf("vault.Open: %d", e)
	}
	if e := v.Commit(list...); e != api.OK {
		t.Fatalf("Commit: %d", e)
	}
}

// layHead: a head and what it tells of, in its slot.
func layHead(t testing.TB, fast *disk.Disk, h api.Head, b []byte) api.Head {
	t.Helper()
	sealed, tag, e := seal.Seal(keyOf(h.Tenant), h, b)
	if e != api.OK {
		t.Fatalf("Seal: %d", e)
	}
	h.Tag = tag
	head, e := header.Encode(h)
	if e != api.OK {
		t.Fatalf("Encode(%+v): %d", h, e)
	}
	write(t, fast, headAt(h.Slot), head)
	write(t, fast, sealedAt(h.Slot), sealed)
	flush(t, fast)
	return h
}

// told: what two disks with power keep, by the document's words alone: the table, the heads that count, and each volume's blocks; the text is empty of a sector that is not what was sealed.
func told(t testing.TB, fast, slow *disk.Disk, slots int) (api.Table, []api.Head, map[int][]string) {
	t.Helper()
	v, e := vault.Open(fast, slots)
	if e != api.OK {
		t.Fatalf("vault.Open: %d", e)
	}
	table := v.Table()
	var heads []api.Head
	for slot := range slots {
		h, _ := header.Decode(sector(t, fast, headAt(slot)))
		heads = append(heads, h)
	}
	counting, _, e := header.Newest(table, heads)
	if e != api.OK {
		t.Fatalf("Newest: %d", e)
	}
	values := map[int][]string{}
	for _, v := range table.Volumes {
		for block := range v.Blocks {
			values[v.Id] = append(values[v.Id], string(sector(t, slow, v.Id*32+block)))
		}
	}
	for _, h := range counting {
		b, _ := seal.Open(keyOf(h.Tenant), h, sector(t, fast, sealedAt(h.Slot)))
		values[h.Volume][h.Block] = string(b)
	}
	return table, counting, values
}

// answered: what a cache says of each volume's blocks, likewise.
func answered(t testing.TB, c *cache.Cache) map[int][]string {
	t.Helper()
	values := map[int][]string{}
	for _, v := range c.Vault().Table().Volumes {
		for block := range v.Blocks {
			b, e := c.Read(v.Id, block)
			if e != api.OK && e != api.ErrSeal || e == api.ErrSeal && b != nil || e == api.OK && len(b) != api.Sector {
				t.Fatalf("Read(%d, %d): %x, %d", v.Id, block, b, e)
			}
			values[v.Id] = append(values[v.Id], string(b))
		}
	}
	return values
}

// good: is a head, by the document's words?
func good(table api.Table, slot int, h api.Head) bool {
	for _, v := range table.Volumes {
		if v.Id == h.Volume {
			return h.Slot == slot && h.Tenant == table.Owners[slot] && h.Tenant == v.Tenant && h.Block >= 0 && h.Block < v.Blocks && h.Version >= 1
		}
	}
	return false
}

// written is a write that was made of a volume.
type written struct {
	block int
	text  string
}

// rig is a cache, its disks, and what was done of it.
type rig struct {
	testing.TB
	slots      int
	fast, slow *disk.Disk
	c          *cache.Cache
	writes     map[int][]written // of each volume, in order
	sure       map[int]int       // so many of them were made ahead of its last flush
	perhaps    []api.Rec         // a commit that was cut off
}

// rigOf: over new disks; on the slow one each block has a text of its own.
func rigOf(t testing.TB, slots int, list ...api.Rec) *rig {
	t.Helper()
	r := &rig{TB: t, slots: slots, fast: made(t, areas+2*slots), slow: made(t, allSlow)}
	r.writes, r.sure = map[int][]written{}, map[int]int{}
	for n := range allSlow {
		write(t, r.slow, n, first(n/32, n%32))
	}
	flush(t, r.slow)
	r.open()
	r.do(commit(list...))
	return r
}

func (r *rig) open() {
	r.Helper()
	c, e := cache.Open(r.fast, r.slow, r.slots)
	if c == nil || e != api.OK {
		r.Fatalf("Open: %v, %d", c, e)
	}
	r.c = c
}

// behind: a volume's blocks behind so many of its writes.
func (r *rig) behind(v api.Volume, writes int) []string {
	var list []string
	for block := range v.Blocks {
		list = append(list, string(first(v.Id, block)))
	}
	for _, w := range r.writes[v.Id][:writes] {
		list[w.block] = w.text
	}
	return list
}

// step is what is done of a rig.
type step func(r *rig) api.Errno

// do: steps of which all are OK.
func (r *rig) do(list ...step) {
	r.Helper()
	for i, s := range list {
		if e := s(r); e != api.OK {
			r.Fatalf("step %d: %d", i, e)
		}
	}
}

func put(volume, block, n int) step {
	return func(r *rig) api.Errno {
		b := text(n)
		e := r.c.Write(volume, block, b)
		if e == api.OK || e == api.ErrPower {
			r.writes[volume] = append(r.writes[volume], written{block, string(b)})
		}
		return e
	}
}

func get(volume, block int) step {
	return func(r *rig) api.Errno {
		b, e := r.c.Read(volume, block)
		want := first(volume, block)
		for _, w := range r.writes[volume] {
			if w.block == block {
				want = []byte(w.text)
			}
		}
		if e == api.OK && !bytes.Equal(b, want) {
			r.Fatalf("Read(%d, %d) = %x, want %x", volume, block, b, want)
		}
		return e
	}
}

func sure(volume int) step {
	return func(r *rig) api.Errno {
		e := r.c.Flush(volume)
		if e == api.OK {
			r.sure[volume] = len(r.writes[volume])
		}
		return e
	}
}

func clean(tenant int) step { return func(r *rig) api.Errno { return r.c.Clean(tenant) } }

func commit(list ...api.Rec) step {
	return func(r *rig) api.Errno {
		e := r.c.Vault().Commit(list...)
		if e == api.ErrPower {
			r.perhaps = list
		}
		return e
	}
}

// sound: what holds at any time, with power or without.
func (r *rig) sound() {
	r.Helper()
	table, heads := r.c.Vault().Table(), r.c.Heads()
	if len(heads) != r.slots || len(table.Owners) != r.slots {
		r.Fatalf("%d heads of %d slots, %d owners", len(heads), r.slots, len(table.Owners))
	}
	for slot, h := range heads {
		if h != (api.Head{}) && !good(table, slot, h) {
			r.Fatalf("Heads(): slot %d has %+v in %+v", slot, h, table)
		}
		if now, e := r.fast.Read(headAt(slot)); e == api.OK {
			sealed := sector(r, r.fast, sealedAt(slot))
			r.soundSlot(table, slot, now, sealed)
			if is, _ := header.Decode(now); is != h {
				r.Fatalf("Heads(): slot %d has %+v, the disk %+v", slot, h, is)
			}
		}
		lasting, _ := r.fast.Lasting(headAt(slot))
		sealed, _ := r.fast.Lasting(sealedAt(slot))
		r.soundSlot(table, slot, lasting, sealed)
	}
}

func (r *rig) soundSlot(table api.Table, slot int, head, sealed []byte) {
	r.Helper()
	if table.Owners[slot] == 0 && !bytes.Equal(append(head, sealed...), make([]byte, 128)) {
		r.Fatalf("nobody's slot %d has %x, %x", slot, head, sealed)
	}
	if h, e := header.Decode(head); e != api.ErrNone && (e != api.OK || !good(table, slot, h)) {
		r.Fatalf("slot %d has %+v, %d in %+v", slot, h, e, table)
	}
}

// right: all that can be asked of a cache with power, whose writes were all made.
func (r *rig) right() {
	r.Helper()
	r.sound()
	_, _, values := told(r, r.fast, r.slow, r.slots)
	if got := answered(r, r.c); !reflect.DeepEqual(got, values) {
		r.Fatalf("the cache answers %x, the disks keep %x", got, values)
	}
	for _, v := range r.c.Vault().Table().Volumes {
		if want := r.behind(v, len(r.writes[v.Id])); !slices.Equal(values[v.Id], want) {
			r.Fatalf("volume %d is %x, want %x", v.Id, values[v.Id], want)
		}
	}
}

// emptied: a tenant's slots hold nothing, and its blocks stand on the slow disk; all that lasts.
func (r *rig) emptied(tenant int) {
	r.Helper()
	table := r.c.Vault().Table()
	for slot, owner := range table.Owners {
		head, _ := r.fast.Lasting(headAt(slot))
		sealed, _ := r.fast.Lasting(sealedAt(slot))
		if owner == tenant && (r.c.Heads()[slot] != api.Head{} || !bytes.Equal(append(head, sealed...), make([]byte, 128))) {
			r.Fatalf("slot %d holds %+v, %x, %x", slot, r.c.Heads()[slot], head, sealed)
		}
	}
	for _, v := range table.Volumes {
		for block, want := range r.behind(v, len(r.writes[v.Id])) {
			if b, _ := r.slow.Lasting(v.Id*32 + block); v.Tenant == tenant && string(b) != want {
				r.Fatalf("block %d of volume %d has %x on the slow disk, want %x", block, v.Id, b, want)
			}
		}
	}
}

// P19.1

func notOpened(t *testing.T, fast, slow *disk.Disk, slots int, want api.Errno) {
	t.Helper()
	if c, e := cache.Open(fast, slow, slots); c != nil || e != want {
		t.Errorf("Open with %d slots: %v, %d, want %d", slots, c, e, want)
	}
}

// dark: the power of a disk goes.
func dark(t testing.TB, d *disk.Disk) {
	t.Helper()
	d.Limit(0)
	if e := d.Flush(); e != api.ErrPower {
		t.Fatalf("the power is there: %d", e)
	}
}

func TestOpenOfWrongThings(t *testing.T) {
	for _, power := range []bool{true, false} {
		disks := func(fastSectors, slowSectors int) (fast, slow *disk.Disk) {
			fast, slow = made(t, fastSectors), made(t, slowSectors)
			if !power {
				dark(t, fast)
				dark(t, slow)
			}
			return fast, slow
		}
		fast, slow := disks(api.MaxSectors, api.MaxSectors)
		notOpened(t, nil, slow, 4, api.ErrArg)
		notOpened(t, fast, nil, 4, api.ErrArg)
		notOpened(t, nil, nil, 4, api.ErrArg)
		notOpened(t, &disk.Disk{}, slow, 4, api.ErrArg)
		notOpened(t, fast, &disk.Disk{}, 4, api.ErrArg)
		for _, slots := range []int{0, -1, -4, -192, 65, 66, 128, 256, 260, 1<<16 + 4, 1<<32 + 4, math.MaxInt, math.MaxInt - 1, math.MinInt, math.MinInt + 4, 1<<62 + 4, 1<<63 - 190} {
			notOpened(t, fast, slow, slots, api.ErrArg)
		}
		for _, slots := range []int{1, 2, 4, 63, 64} {
			for _, sectors := range []int{1, 256, 384, areas + slots, areas + 2*slots - 1} {
				fast, slow := disks(sectors, allSlow)
				notOpened(t, fast, slow, slots, api.ErrArg)
			}
			for _, sectors := range []int{1, 32, 64, 254, 255} {
				fast, slow := disks(areas+2*slots, sectors)
				notOpened(t, fast, slow, slots, api.ErrArg)
			}
		}
	}
}

func TestOpenOfNewDisks(t *testing.T) {
	for _, slots := range []int{1, 2, 4, 63, 64} {
		for _, more := range []int{0, 1, 100} {
			c, e := cache.Open(made(t, areas+2*slots+more), made(t, allSlow+more), slots)
			if e != api.OK || !reflect.DeepEqual(c.Heads(), make([]api.Head, slots)) {
				t.Fatalf("%d slots: %+v, %d", slots, c.Heads(), e)
			}
			if got := c.Vault().Table(); len(got.Tenants) != 0 || len(got.Volumes) != 0 || !slices.Equal(got.Owners, make([]int, slots)) {
				t.Errorf("%d slots: %+v", slots, got)
			}
		}
	}
}

func TestOpenWithoutPower(t *testing.T) {
	fast, slow := made(t, areas+8), made(t, allSlow)
	dark(t, slow)
	notOpened(t, fast, slow, 4, api.ErrPower)
	dark(t, fast)
	notOpened(t, fast, slow, 4, api.ErrPower)
	slow.Crash()
	notOpened(t, fast, slow, 4, api.ErrPower)
	fast.Crash()
	if c, e := cache.Open(fast, slow, 4); c == nil || e != api.OK {
		t.Errorf("with power: %d", e)
	}
}

// A table that can't be made goes ahead of the slow disk's power; nothing is written then.
func TestOpenOfTablesThatCannotBeMade(t *testing.T) {
	fast, slow := made(t, areas+16), made(t, allSlow)
	lay(t, fast, 8, tenant(1, 8), own(7, 1))
	write(t, fast, headAt(3), text(3))
	dark(t, slow)
	notOpened(t, fast, slow, 7, api.ErrForm)
	if fast.Pending() != 1 || !bytes.Equal(sector(t, fast, headAt(3)), text(3)) {
		t.Errorf("Open wrote")
	}
	slow.Crash()
	notOpened(t, fast, slow, 4, api.ErrForm)
	if c, e := cache.Open(fast, slow, 8); c == nil || e != api.OK {
		t.Errorf("with as many slots: %d", e)
	}
}

// opens: Open of what stands on a rig's disks leaves the heads that count and the values, and nothing else.
func (r *rig) opens() {
	r.Helper()
	table, counting, values := told(r, r.fast, r.slow, r.slots)
	want := make([]api.Head, r.slots)
	for _, h := range counting {
		want[h.Slot] = h
	}
	r.open()
	if got := r.c.Heads(); !slices.Equal(got, want) {
		r.Fatalf("Heads() = %+v, want %+v", got, want)
	}
	if got := r.c.Vault().Table(); !alike(got, table) || !slices.Equal(got.Owners, table.Owners) {
		r.Fatalf("the table is %+v, want %+v", got, table)
	}
	if got := answered(r, r.c); !reflect.DeepEqual(got, values) {
		r.Fatalf("the values are %x, want %x", got, values)
	}
	r.sound()
	for slot, h := range want {
		if lasting, _ := r.fast.Lasting(headAt(slot)); h == (api.Head{}) && !bytes.Equal(lasting, make([]byte, 64)) {
			r.Fatalf("slot %d has the head %x", slot, lasting)
		}
	}
	r.fast.Crash()
	r.slow.Crash()
	if _, again, left := told(r, r.fast, r.slow, r.slots); !slices.Equal(again, counting) || !reflect.DeepEqual(left, values) {
		r.Fatalf("behind a crash there count %+v, %x, want %+v, %x", again, left, counting, values)
	}
}

// alike: are two tables the same, but for Bases, which do not sink, and owners of slots that were nobody's?
func alike(got, was api.Table) bool {
	if !slices.Equal(got.Tenants, was.Tenants) || len(got.Volumes) != len(was.Volumes) || len(got.Owners) != len(was.Owners) {
		return false
	}
	for i, v := range got.Volumes {
		if v.Base < was.Volumes[i].Base {
			return false
		}
		v.Base = was.Volumes[i].Base
		if v != was.Volumes[i] {
			return false
		}
	}
	for slot, owner := range got.Owners {
		if owner != was.Owners[slot] && was.Owners[slot] != 0 {
			return false
		}
	}
	return true
}

// crafted: a rig of which slots 0 to 3 are tenant 2's, with volume 3 of 6 blocks, Base 5, and volume 4; slots 4 and 5 are tenant 1's, with volume 0; 6 and 7 are nobody's.
func crafted(t testing.TB) *rig {
	t.Helper()
	return rigOf(t, 8, tenant(1, 2), tenant(2, 5), volume(0, 1, 32), volume(3, 2, 6), volume(4, 2, 2), base(3, 5),
		own(0, 2), own(1, 2), own(2, 2), own(3, 2), own(4, 1), own(5, 1))
}

func TestHeadsThatCount(t *testing.T) {
	at := func(slot, volume, block, version int) api.Head {
		return api.Head{Tenant: []int{2, 2, 2, 2, 1, 1, 1, 2}[slot], Volume: volume, Block: block, Slot: slot, Version: version}
	}
	for i, c := range []struct {
		heads []api.Head
		count []int // slots
	}{
		{nil, nil},
		{[]api.Head{at(0, 3, 0, 1), at(1, 3, 1, 5), at(2, 3, 2, 6), at(3, 3, 5, 7)}, []int{0, 1, 2, 3}},
		{[]api.Head{at(0, 3, 0, 7), at(1, 3, 1, 8)}, nil},
		{[]api.Head{at(0, 3, 0, 6), at(1, 3, 1, 8)}, []int{0}},
		// Of one block the newest counts, though the version of an older one is needed.
		{[]api.Head{at(0, 3, 0, 6), at(1, 3, 0, 7), at(2, 3, 0, 8), at(3, 3, 0, 5)}, []int{2}},
		{[]api.Head{at(0, 3, 0, 8), at(1, 3, 0, 7), at(2, 3, 1, 6)}, []int{0, 2}},
		{[]api.Head{at(0, 3, 0, 4), at(1, 3, 0, 4)}, []int{0}},
		{[]api.Head{at(0, 3, 0, 6), at(1, 3, 1, 6), at(2, 4, 0, 1), at(3, 4, 1, 2)}, []int{0, 1, 2, 3}},
		// Heads that are not good: of a block or a volume that is not there, another tenant's, in nobody's slot.
		{[]api.Head{at(0, 3, 6, 6), at(1, 5, 0, 1), at(2, 0, 0, 1), at(4, 3, 0, 6), at(6, 0, 0, 1), at(7, 3, 0, 6)}, nil},
		{[]api.Head{at(4, 0, 31, 1), at(5, 0, 0, 2), at(6, 0, 1, 3)}, []int{4, 5}},
	} {
		r := crafted(t)
		for n, h := range c.heads {
			layHead(t, r.fast, h, text(i*10+n))
		}
		_, counting, _ := told(t, r.fast, r.slow, r.slots)
		var got []int
		for _, h := range counting {
			got = append(got, h.Slot)
		}
		if slices.Sort(got); !slices.Equal(got, c.count) {
			t.Fatalf("case %d is not what it was to be: %v count", i, got)
		}
		r.opens()
	}
}

// Sectors that are no heads are emptied too, and nobody's slots have 128 bytes 0, wherever else other bytes stand.
func TestLitter(t *testing.T) {
	for n := headAt(0); n <= sealedAt(7); n++ {
		for _, b := range [][]byte{text(n), append(make([]byte, 63), 1), append([]byte{128}, make([]byte, 63)...)} {
			r := crafted(t)
			layHead(t, r.fast, api.Head{Tenant: 2, Volume: 3, Block: 1, Slot: 2, Version: 6}, text(1))
			if n == sealedAt(2) {
				continue
			}
			write(t, r.fast, n, b)
			flush(t, r.fast)
			r.opens()
		}
	}
	r := crafted(t)
	for slot := range 8 {
		write(t, r.fast, headAt(slot), text(slot))
		write(t, r.fast, sealedAt(slot), text(slot))
		flush(t, r.fast)
		// What is pending does not show that it lasts.
		write(t, r.fast, headAt(slot), make([]byte, 64))
		write(t, r.fast, sealedAt(slot), make([]byte, 64))
	}
	r.opens()
}

// What Open finds on the disks, pending or not, lasts behind it.
func TestOpenMakesLast(t *testing.T) {
	r := crafted(t)
	write(t, r.slow, 3*32+2, text(700))
	r.do(put(3, 1, 1), put(0, 1, 2))
	r.opens()
	if b, _ := r.slow.Lasting(3*32 + 2); !bytes.Equal(b, text(700)) {
		t.Errorf("the slow disk keeps %x", b)
	}
}

// Where nothing is left to be done, Open writes nothing.
func TestOpenOnceMore(t *testing.T) {
	r := crafted(t)
	r.do(put(3, 0, 1), put(3, 0, 2), put(0, 5, 3), put(3, 1, 4))
	r.open()
	r.right()
	ahead := r.all()
	for range 3 {
		r.open()
		if !reflect.DeepEqual(r.all(), ahead) {
			t.Fatalf("Open wrote something")
		}
	}
	r.right()
}

func TestOpenOfRandomHeads(t *testing.T) {
	for seed := range 400 {
		n := random(seed)
		r := crafted(t)
		for slot := range 8 {
			h := api.Head{
				Tenant:  []int{2, 2, 2, 2, 1, 1, 1, 2}[slot],
				Volume:  []int{3, 3, 3, 4, 0, 0, 1}[n.Intn(7)],
				Block:   n.Intn(3),
				Slot:    slot,
				Version: 1 + n.Intn(9),
			}
			if slot > 3 {
				h.Volume = []int{0, 0, 0, 3}[n.Intn(4)]
			}
			if n.Intn(8) == 0 {
				h.Tenant = 1 + n.Intn(3)
			}
			if n.Intn(5) > 0 {
				layHead(t, r.fast, h, text(n.Int()))
			}
			if n.Intn(10) == 0 {
				write(t, r.fast, sealedAt(slot), text(n.Int()))
			}
		}
		r.opens()
		r.opens()
		for _, v := range []int{0, 3, 4} {
			block := n.Intn(2)
			if e := r.c.Write(v, block, text(seed)); e != api.OK {
				t.Fatalf("Write(%d, %d): %d", v, block, e)
			}
			if b, e := r.c.Read(v, block); e != api.OK || !bytes.Equal(b, text(seed)) {
				t.Fatalf("Read(%d, %d): %x, %d", v, block, b, e)
			}
			r.sound()
		}
		if _, _, values := told(t, r.fast, r.slow, r.slots); !reflect.DeepEqual(values, answered(t, r.c)) {
			t.Fatalf("seed %d: the disks keep other values", seed)
		}
	}
}

// P19.2

func TestNilCache(t *testing.T) {
	var c *cache.Cache
	if v := c.Vault(); v != nil {
		t.Errorf("Vault() = %v", v)
	}
	if h := c.Heads(); len(h) != 0 {
		t.Errorf("Heads() = %v", h)
	}
	for volume := -1; volume < 9; volume++ {
		b, e := c.Read(volume, 0)
		if b != nil || e != api.ErrClosed || c.Write(volume, 0, text(1)) != e || c.Write(volume, 0, nil) != e || c.Flush(volume) != e || c.Clean(volume) != e {
			t.Errorf("volume %d: %x, %d", volume, b, e)
		}
	}
}

// A cache that was not opened has no table.
func TestACacheThatWasNotOpened(t *testing.T) {
	c := &cache.Cache{}
	if v, h := c.Vault(), c.Heads(); v != nil || len(h) != 0 {
		t.Errorf("%v, %v", v, h)
	}
	b, e := c.Read(0, 0)
	if b != nil || e != api.ErrNone || c.Write(0, 0, text(1)) != e || c.Flush(0) != e || c.Clean(1) != e {
		t.Errorf("%x, %d", b, e)
	}
}

// ends: numbers that no volume, block or tenant has.
func ends() []int {
	return []int{-1, -2, -32, 32, 33, 64, 255, 256, 259, 1<<16 + 3, 1<<32 + 3, 1 << 62, math.MaxInt, math.MinInt, math.MinInt + 3}
}

// refuses: what is wrong with calls, and that they change nothing.
func (r *rig) refuses(volume, block int, b []byte, read, write api.Errno) {
	r.Helper()
	ahead := r.all()
	if got, e := r.c.Read(volume, block); e != read || e != api.OK && got != nil {
		r.Errorf("Read(%d, %d): %x, %d, want %d", volume, block, got, e, read)
	}
	if e := r.c.Write(volume, block, b); e != write {
		r.Errorf("Write(%d, %d, %x): %d, want %d", volume, block, b, e, write)
	}
	if !reflect.DeepEqual(r.all(), ahead) {
		r.Errorf("a refused call changed something")
	}
}

// everything is all that can be asked of a cache and of disks with power.
type everything struct {
	table       api.Table
	generation  int
	heads       []api.Head
	fast, slow  []string
	pendingFast int
	pendingSlow int
}

func (r *rig) all() everything {
	r.Helper()
	sectors := func(d *disk.Disk, n int) []string {
		var list []string
		for i := range n {
			b, _ := d.Lasting(i)
			list = append(list, string(sector(r, d, i)), string(b))
		}
		return list
	}
	return everything{
		table:       r.c.Vault().Table(),
		generation:  r.c.Vault().Generation(),
		heads:       r.c.Heads(),
		fast:        sectors(r.fast, areas+2*r.slots),
		slow:        sectors(r.slow, allSlow),
		pendingFast: r.fast.Pending(),
		pendingSlow: r.slow.Pending(),
	}
}

func wrongTexts() [][]byte {
	return [][]byte{nil, {}, {0}, make([]byte, 63), make([]byte, 65), make([]byte, 128), make([]byte, 256+64)}
}

func TestRefusals(t *testing.T) {
	// Tenant 5 is dying; volume 4 has no blocks, volume 7 is the dying one's.
	r := rigOf(t, 4, tenant(2, 2), tenant(5, 2), volume(0, 2, 32), volume(3, 2, 6), volume(4, 2, 0), volume(7, 5, 4), own(1, 5), dying(5))
	r.open()
	r.do(put(3, 5, 1), put(0, 31, 2), put(3, 5, 3))
	for _, v := range append(ends(), 1, 2, 5, 6, 8) {
		for _, b := range append(wrongTexts(), text(1)) {
			r.refuses(v, 0, b, api.ErrNone, api.ErrNone)
			r.refuses(v, -1, b, api.ErrNone, api.ErrNone)
		}
		if e := r.c.Flush(v); e != api.ErrNone {
			t.Errorf("Flush(%d): %d", v, e)
		}
	}
	for _, block := range ends() {
		for _, b := range append(wrongTexts(), text(1)) {
			for _, v := range []int{0, 3, 4} {
				r.refuses(v, block, b, api.ErrRange, api.ErrRange)
			}
			r.refuses(7, block, b, api.ErrRange, api.ErrBusy)
		}
	}
	for _, b := range append(wrongTexts(), text(1)) {
		r.refuses(3, 6, b, api.ErrRange, api.ErrRange)
		r.refuses(4, 0, b, api.ErrRange, api.ErrRange)
		r.refuses(7, 4, b, api.ErrRange, api.ErrBusy)
		r.refuses(7, 3, b, api.OK, api.ErrBusy)
	}
	for _, b := range wrongTexts() {
		for _, block := range []int{0, 1, 5} {
			r.refuses(0, block, b, api.OK, api.ErrArg)
			r.refuses(3, block, b, api.OK, api.ErrArg)
		}
	}
	ahead := r.all()
	for _, id := range append(ends(), 0, 1, 3, 4, 6, 7, 8) {
		if e := r.c.Clean(id); e != api.ErrNone {
			t.Errorf("Clean(%d): %d", id, e)
		}
	}
	if !reflect.DeepEqual(r.all(), ahead) {
		t.Errorf("a refused call changed something")
	}
	r.right()
}

// What a dying tenant's volumes hold is read, flushed and cleaned.
func TestDyingTenants(t *testing.T) {
	r := rigOf(t, 3, tenant(2, 3), volume(3, 2, 6))
	r.do(put(3, 0, 1), put(3, 1, 2), sure(3))
	lay(t, r.fast, 3, dying(2))
	r.open()
	r.right()
	r.do(get(3, 0), sure(3))
	if e := r.c.Write(3, 0, text(5)); e != api.ErrBusy {
		t.Errorf("Write: %d", e)
	}
	r.right()
	r.do(clean(2))
	r.right()
	r.emptied(2)
	r.open()
	r.right()
}

// All that was written is read, by however few slots, and whoever's volumes they are; what was written last is in a slot.
func TestReadsAndWrites(t *testing.T) {
	for _, slots := range []int{1, 2, 3, 8, 64} {
		quotas := []int{slots, 0}
		if slots > 1 {
			quotas = []int{slots / 2, slots - slots/2}
		}
		var list []api.Rec
		volumes := []int{}
		for i, n := range quotas {
			if n > 0 {
				list = append(list, tenant(i+1, n), volume(i, i+1, 5), volume(i+6, i+1, 32))
				volumes = append(volumes, i, i+6)
			}
		}
		r := rigOf(t, slots, list...)
		r.right()
		n := random(slots)
		for i := range 150 {
			v := volumes[n.Intn(len(volumes))]
			block := n.Intn(5)
			r.do(put(v, block, i), get(v, n.Intn(5)))
			r.slotOf(v, block)
			switch n.Intn(12) {
			case 0:
				r.do(sure(v))
			case 1:
				r.do(clean(1 + v%6))
				r.emptied(1 + v%6)
			case 2:
				r.open()
			}
			r.right()
		}
	}
}

// What was written stands sealed in a slot of its tenant, as long as there is room, and not on the slow disk.
func TestWhereBlocksStand(t *testing.T) {
	r := rigOf(t, 8, tenant(2, 6), tenant(4, 2), volume(3, 2, 4), volume(5, 2, 2), volume(6, 4, 2))
	for i, at := range [][2]int{{3, 0}, {3, 3}, {5, 1}, {6, 0}, {5, 0}, {3, 1}} {
		r.do(put(at[0], at[1], i))
	}
	versions := map[int]int{}
	for slot, h := range r.c.Heads() {
		if h.Tenant == 0 {
			continue
		}
		versions[h.Volume]++
		b, _ := r.c.Read(h.Volume, h.Block)
		sealed, tag, e := seal.Seal(keyOf(h.Tenant), h, b)
		if e != api.OK || tag != h.Tag || !bytes.Equal(sealed, sector(t, r.fast, sealedAt(slot))) {
			t.Errorf("slot %d is not sealed as %+v", slot, h)
		}
		if on := sector(t, r.slow, h.Volume*32+h.Block); !bytes.Equal(on, first(h.Volume, h.Block)) {
			t.Errorf("block %d of volume %d is on the slow disk", h.Block, h.Volume)
		}
	}
	if !reflect.DeepEqual(versions, map[int]int{3: 3, 5: 2, 6: 1}) {
		t.Errorf("heads of volumes: %v", versions)
	}
	r.right()
}

// heldOf: how many slots hold heads of a tenant.
func (r *rig) heldOf(tenant int) int {
	n := 0
	for _, h := range r.c.Heads() {
		if h.Tenant == tenant {
			n++
		}
	}
	return n
}

// Slots that were emptied are filled again.
func TestSlotsAreFilledAgain(t *testing.T) {
	r := rigOf(t, 4, tenant(2, 3), volume(3, 2, 6))
	for round := range 4 {
		for block := range 3 {
			r.do(put(3, block, 10*round+block))
			if got := r.heldOf(2); got != block+1 {
				t.Fatalf("round %d: %d slots hold heads, want %d", round, got, block+1)
			}
		}
		r.do(put(3, 3+round%3, round))
		if got := r.heldOf(2); got != 3 {
			t.Fatalf("round %d: %d slots hold heads", round, got)
		}
		r.do(clean(2))
		if round == 2 {
			r.open()
		}
	}
}

// What is read stays longer than what is not.
func TestWhatIsReadStays(t *testing.T) {
	kept := func(at func(i int) bool) int {
		r := rigOf(t, 4, tenant(2, 4), volume(3, 2, 32))
		n := 0
		for i := range 200 {
			if i%20 == 0 {
				r.do(put(3, 0, i))
			}
			if at(i) {
				r.do(get(3, 0))
			}
			r.do(put(3, 1+i%31, i))
			if slices.ContainsFunc(r.c.Heads(), func(h api.Head) bool { return h.Tenant == 2 && h.Block == 0 }) {
				n++
			}
		}
		return n
	}
	with, without := kept(func(int) bool { return true }), kept(func(int) bool { return false })
	if with < 2*without {
		t.Errorf("it is there %d times when it is read, %d times when it is not", with, without)
	}
}

// Slots of other tenants stay as they are, whatever one writes.
func TestOwnSlotsAlone(t *testing.T) {
	r := rigOf(t, 6, tenant(1, 2), tenant(2, 3), volume(0, 1, 9), volume(1, 2, 9))
	r.do(put(0, 0, 1), put(0, 1, 2))
	mine := slices.DeleteFunc(r.c.Heads(), func(h api.Head) bool { return h.Tenant != 1 })
	for i := range 60 {
		r.do(put(1, i*i%9, 10+i))
		if i%20 == 19 {
			r.do(clean(2))
		}
		heads, owned := r.c.Heads(), 0
		for _, owner := range r.c.Vault().Table().Owners {
			if owner == 2 {
				owned++
			}
		}
		if got := slices.DeleteFunc(heads, func(h api.Head) bool { return h.Tenant != 1 }); len(mine) != 2 || !slices.Equal(got, mine) || owned > 3 {
			t.Fatalf("tenant 1 has %+v, tenant 2 %d slots", got, owned)
		}
	}
	r.right()
}

// Read writes nothing on either disk.
func TestReadWritesNothing(t *testing.T) {
	r := rigOf(t, 3, tenant(2, 3), volume(3, 2, 6), volume(4, 2, 2))
	for i := range 9 {
		r.do(put(3, i%5, i))
	}
	ahead := r.all()
	r.fast.Limit(0)
	r.slow.Limit(0)
	for range 3 {
		for block := range 6 {
			r.do(get(3, block))
		}
		r.do(get(4, 0), get(4, 1))
	}
	if !reflect.DeepEqual(r.all(), ahead) {
		t.Errorf("Read changed something")
	}
	r.fast.Limit(-1)
	r.slow.Limit(-1)
	r.do(put(3, 0, 100))
	r.right()
}

// Sectors that belong to no slot, no volume's block and no area stay as they are.
func TestOnlyItsSectors(t *testing.T) {
	fast, slow := made(t, areas+2*3+40), made(t, allSlow+40)
	for n := areas + 6; n < areas+46; n++ {
		write(t, fast, n, text(n))
	}
	for n := range allSlow + 40 {
		write(t, slow, n, text(n))
	}
	r := &rig{TB: t, slots: 3, fast: fast, slow: slow, writes: map[int][]written{}, sure: map[int]int{}}
	r.open()
	r.do(commit(tenant(2, 3), volume(3, 2, 6)))
	for i := range 40 {
		r.do(put(3, i*i%6, -i))
	}
	r.do(clean(2), put(3, 1, -1), put(3, 1, -2))
	r.open()
	for n := areas + 6; n < areas+46; n++ {
		if !bytes.Equal(sector(t, fast, n), text(n)) {
			t.Errorf("sector %d of the fast disk was written", n)
		}
	}
	for n := range allSlow + 40 {
		if b := sector(t, slow, n); (n < 96 || n >= 102) && !bytes.Equal(b, text(n)) {
			t.Errorf("sector %d of the slow disk was written", n)
		}
	}
}

// One disk as both makes no sense, but no call panics.
func TestOneDiskAsBoth(t *testing.T) {
	d := made(t, api.MaxSectors)
	c, e := cache.Open(d, d, 2)
	if e != api.OK {
		t.Fatalf("Open: %d", e)
	}
	c.Vault().Commit(tenant(2, 2), volume(0, 2, 32), volume(7, 2, 32))
	for i := range 300 {
		c.Write(i%2*7, i*i%32, text(i))
		c.Read(i%2*7, i%32)
		if i%50 == 49 {
			c.Clean(2)
			c.Flush(0)
			if again, e := cache.Open(d, d, 2); e == api.OK {
				c = again
			}
		}
	}
}

// Changes that may be made directly: the cache goes by the table as it is.
func TestDirectChanges(t *testing.T) {
	r := rigOf(t, 6)
	if e := r.c.Write(3, 0, text(1)); e != api.ErrNone {
		t.Errorf("Write of no volume: %d", e)
	}
	r.do(commit(tenant(2, 1)), commit(volume(3, 2, 2)), put(3, 0, 1), put(3, 1, 2), put(3, 0, 3))
	r.do(commit(api.Rec{}), commit(quota(2, 4)), commit(volume(4, 2, 32)), put(4, 31, 4), put(3, 1, 5), put(4, 0, 6))
	r.right()
	r.do(commit(tenant(7, 2), volume(0, 7, 1)), put(0, 0, 7), put(3, 0, 8), put(0, 0, 9), commit(quota(2, 4)), put(4, 1, 10))
	r.right()
	r.do(clean(2), clean(7))
	r.right()
	r.emptied(2)
	r.emptied(7)
	r.open()
	r.right()
}

// However many versions there were, the last one is MaxTime: what is written behind it stands on the slow disk.
func TestTheLastVersions(t *testing.T) {
	for below := range 5 {
		r := rigOf(t, 3, tenant(2, 2), volume(3, 2, 4), base(3, api.MaxTime-below))
		r.open()
		for i := range 12 {
			r.do(put(3, i*i%4, i))
			r.right()
			if i%4 == 3 {
				r.do(sure(3))
			}
			if i%5 == 4 {
				r.fast.Crash(true, true, true)
				r.slow.Crash(true, true, true)
				r.open()
				r.right()
			}
		}
		if got := r.c.Vault().Table().Volumes[0].Base; got > api.MaxTime {
			t.Errorf("Base %d", got)
		}
		r.do(clean(2))
		r.right()
		r.emptied(2)
	}
	// Heads of the last versions, left over ones among them.
	r := rigOf(t, 4, tenant(2, 4), volume(3, 2, 4), base(3, api.MaxTime-2), own(0, 2), own(1, 2), own(2, 2), own(3, 2))
	for slot, version := range []int{7, api.MaxTime - 1, api.MaxTime, api.MaxTime} {
		layHead(t, r.fast, api.Head{Tenant: 2, Volume: 3, Block: slot, Slot: slot, Version: version}, text(slot))
		r.writes[3] = append(r.writes[3], written{slot, string(text(slot))})
	}
	r.opens()
	r.open()
	r.right()
	for i := range 6 {
		r.do(put(3, i%4, 50+i))
		r.right()
	}
}

// A block of an older head goes through to the slow disk, and the older one does not come back.
func TestLeftOverHeads(t *testing.T) {
	r := rigOf(t, 6, tenant(2, 6), volume(3, 2, 4), base(3, api.MaxTime-4))
	r.open()
	r.do(put(3, 0, 1), put(3, 0, 2), put(3, 1, 3), put(3, 0, 4), put(3, 0, 5))
	r.right()
	r.do(put(3, 1, 6), put(3, 0, 7))
	r.right()
	r.fast.Crash()
	r.slow.Crash()
	r.open()
	r.right()
}

// spoil: what a slot holds is another one by a byte.
func (r *rig) spoil(slot, at int) {
	r.Helper()
	b := sector(r, r.fast, sealedAt(slot))
	b[at] ^= 1
	write(r, r.fast, sealedAt(slot), b)
}

// slotOf: the slot with a block's newest head.
func (r *rig) slotOf(volume, block int) int {
	r.Helper()
	_, counting, _ := told(r, r.fast, r.slow, r.slots)
	for _, h := range counting {
		if h.Volume == volume && h.Block == block {
			return h.Slot
		}
	}
	r.Fatalf("block %d of volume %d is in no slot", block, volume)
	return 0
}

func (r *rig) sealed(volume, block int) {
	r.Helper()
	if b, e := r.c.Read(volume, block); b != nil || e != api.ErrSeal {
		r.Fatalf("Read(%d, %d): %x, %d", volume, block, b, e)
	}
}

func TestWhatWasNotSealed(t *testing.T) {
	for at := range api.Sector {
		r := rigOf(t, 3, tenant(2, 3), volume(3, 2, 6))
		r.do(put(3, 4, 1), put(3, 1, 2))
		slot := r.slotOf(3, 4)
		r.spoil(slot, at)
		r.sealed(3, 4)
		r.sealed(3, 4)
		r.do(get(3, 1), get(3, 0))
		r.open()
		r.sealed(3, 4)
		r.do(get(3, 1))
		r.spoil(slot, at)
		r.do(get(3, 4))
		r.spoil(slot, at)
		r.do(put(3, 4, 3))
		r.right()
	}
}

// What can't be read does not stand in the way of writes, and is not taken for what the slow disk has.
func TestWritesBesideWhatWasNotSealed(t *testing.T) {
	for slots := 1; slots <= 4; slots++ {
		for spoilt := 1; spoilt <= slots; spoilt++ {
			r := rigOf(t, slots, tenant(2, slots), volume(3, 2, 12))
			for block := range slots {
				r.do(put(3, block, block))
			}
			for block := range spoilt {
				r.spoil(r.slotOf(3, block), block)
			}
			for i := range 30 {
				block := spoilt + i*i%(12-spoilt)
				r.do(put(3, block, 100+i), get(3, block))
				r.sound()
				if i%10 == 9 {
					r.do(sure(3))
					r.fast.Crash()
					r.slow.Crash()
					r.open()
				}
				for n := range 12 {
					if n < spoilt {
						r.sealed(3, n)
					} else {
						r.do(get(3, n))
					}
				}
			}
			ahead := r.all()
			if e := r.c.Clean(2); e != api.ErrSeal || !reflect.DeepEqual(r.all(), ahead) {
				t.Fatalf("Clean: %d", e)
			}
			for block := range spoilt {
				r.do(put(3, block, 200+block))
			}
			r.right()
			r.do(clean(2))
			r.right()
			r.emptied(2)
		}
	}
}

func TestClean(t *testing.T) {
	r := rigOf(t, 7, tenant(2, 4), tenant(3, 3), volume(3, 2, 6), volume(4, 2, 3), volume(1, 3, 4))
	r.do(clean(2))
	r.right()
	r.emptied(2)
	for i := range 20 {
		r.do(put(3, i*i%6, i), put(4, i%3, 100+i), put(1, i%4, 200+i))
		if i%3 == 0 {
			theirs := slices.DeleteFunc(r.c.Heads(), func(h api.Head) bool { return h.Tenant != 3 })
			owners := r.c.Vault().Table().Owners
			r.do(clean(2))
			r.right()
			r.emptied(2)
			if got := slices.DeleteFunc(r.c.Heads(), func(h api.Head) bool { return h.Tenant != 3 }); !slices.Equal(got, theirs) {
				t.Fatalf("tenant 3 has %+v, had %+v", got, theirs)
			}
			if got := r.c.Vault().Table().Owners; !slices.Equal(got, owners) {
				t.Fatalf("the owners are %v, were %v", got, owners)
			}
			r.do(clean(2))
			r.emptied(2)
		}
	}
	r.do(clean(3), clean(2))
	r.right()
	r.emptied(2)
	r.emptied(3)
}

// An older head in another slot does not count when the newer one is gone.
func TestCleanOfManyVersions(t *testing.T) {
	r := rigOf(t, 8, tenant(2, 8), volume(3, 2, 3))
	r.do(put(3, 0, 1), put(3, 0, 2), put(3, 1, 3), put(3, 0, 4), put(3, 1, 5), clean(2))
	r.right()
	r.emptied(2)
	r.do(put(3, 0, 6), put(3, 0, 7))
	r.right()
	r.do(clean(2))
	r.right()
}

// P19.2: the power that went

// lost: each call answers ErrPower, whatever it is given.
func (r *rig) lost() {
	r.Helper()
	for _, v := range []int{0, 3, 5, -1, math.MaxInt} {
		for _, block := range []int{0, 5, 6, -1} {
			b, e := r.c.Read(v, block)
			if b != nil || e != api.ErrPower || r.c.Write(v, block, text(1)) != e || r.c.Write(v, block, nil) != e {
				r.Fatalf("Read(%d, %d): %x, %d", v, block, b, e)
			}
		}
		if e := r.c.Flush(v); e != api.ErrPower {
			r.Fatalf("Flush(%d): %d", v, e)
		}
		if e := r.c.Clean(v); e != api.ErrPower {
			r.Fatalf("Clean(%d): %d", v, e)
		}
	}
}

func TestPowerThatIsGone(t *testing.T) {
	const fast, slow = 1, 2
	for i, c := range []struct {
		call  step
		needs int // the disks without which it can't be done; of the other one nothing is said
	}{
		{get(3, 0), fast}, {get(3, 2), slow}, {put(3, 0, 9), fast}, {put(3, 2, 9), fast}, {sure(3), fast}, {clean(2), fast | slow},
	} {
		for gone := fast; gone <= fast|slow; gone++ {
			r := rigOf(t, 2, tenant(2, 2), volume(3, 2, 6))
			r.do(put(3, 0, 1))
			for n, d := range []*disk.Disk{r.fast, r.slow} {
				if gone>>n&1 == 1 {
					dark(t, d)
				}
			}
			// No call answered ErrPower yet.
			for _, b := range [][]byte{nil, text(1)} {
				if e, f := r.c.Write(5, 0, b), r.c.Write(3, 6, b); e != api.ErrNone || f != api.ErrRange {
					t.Errorf("call %d: Write: %d, %d", i, e, f)
				}
			}
			if e, f, g := r.c.Write(3, 1, nil), r.c.Flush(5), r.c.Clean(5); e != api.ErrArg || f != api.ErrNone || g != api.ErrNone {
				t.Errorf("call %d: %d, %d, %d", i, e, f, g)
			}
			e := c.call(r)
			if e != api.ErrPower && (e != api.OK || gone&c.needs != 0) {
				t.Errorf("call %d without disks %d: %d", i, gone, e)
			}
			if e == api.ErrPower {
				r.sound()
				r.lost()
				r.sound()
				r.fast.Crash()
				r.slow.Crash()
				r.lost()
				r.open()
				r.do(get(3, 5), put(3, 0, 10), put(3, 2, 11), get(3, 0), get(3, 2), sure(3))
			}
		}
	}
}
