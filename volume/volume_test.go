package volume_test

import (
	"bytes"
	"encoding/binary"
	"maps"
	"math"
	"math/rand"
	"reflect"
	"slices"
	"strings"
	"testing"

	"stowage/api"
	"stowage/disk"
	"stowage/header"
	"stowage/seal"
	"stowage/solve"
	"stowage/table"
	"stowage/vault"
	"stowage/volume"
)

// Where things are by the document's words: the fast disk's slots begin behind the two areas; the slow disk has all blocks.
const (
	areas   = 384
	allSlow = 256
)

func headAt(slot int) int   { return areas + 2*slot }
func sealedAt(slot int) int { return areas + 2*slot + 1 }

// random: the same in each run with one seed.
func random(seed int) *rand.Rand { return rand.New(rand.NewSource(int64(seed))) }

// keyOf: each tenant has another one.
func keyOf(id int) string { return "key of tenant " + string(rune('0'+id)) + "." }

// text: of a number, each another one; of 0 bytes 0.
func text(n int) string {
	if n == 0 {
		return zeros
	}
	b := bytes.Repeat([]byte{byte(n*37 + 11)}, api.Sector)
	binary.BigEndian.PutUint64(b[28:], uint64(n))
	return string(b)
}

// zeros: a sector of bytes 0.
var zeros = strings.Repeat("\x00", api.Sector)

func made(t testing.TB, sectors int) *disk.Disk {
	t.Helper()
	d, e := disk.New(sectors)
	if e != api.OK {
		t.Fatalf("disk.New(%d): %d", sectors, e)
	}
	return d
}

func write(t testing.TB, d *disk.Disk, sector int, b string) {
	if e := d.Write(sector, []byte(b)); e != api.OK {
		t.Fatalf("sector %d is not written: %d", sector, e)
	}
}

func flush(t testing.TB, d *disk.Disk) {
	t.Helper()
	if e := d.Flush(); e != api.OK {
		t.Fatalf("not flushed: %d", e)
	}
}

func sector(t testing.TB, d *disk.Disk, n int) string {
	b, e := d.Read(n)
	if e != api.OK {
		t.Fatalf("sector %d is not read: %d", n, e)
	}
	return string(b)
}

func lasting(t testing.TB, d *disk.Disk, n int) string {
	b, e := d.Lasting(n)
	if e != api.OK {
		t.Fatalf("sector %d: %d", n, e)
	}
	return string(b)
}

// dark: the power of a disk goes.
func dark(t testing.TB, d *disk.Disk) {
	t.Helper()
	d.Limit(0)
	if e := d.Flush(); e != api.ErrPower {
		t.Fatalf("the power is there: %d", e)
	}
}

// lay: changes of the table that a fast disk keeps, ahead of any keeper.
func lay(t testing.TB, fast *disk.Disk, slots int, list ...api.Rec) {
	t.Helper()
	v, e := vault.Open(fast, slots)
	if e != api.OK {
		t.Fatalf("vault.Open: %d", e)
	}
	if e := v.Commit(list...); e != api.OK {
		t.Fatalf("Commit: %d", e)
	}
}

// layHead: a head and what it tells of, in its slot.
func layHead(t testing.TB, fast *disk.Disk, h api.Head, b string) {
	t.Helper()
	sealed, tag, e := seal.Seal(keyOf(h.Tenant), h, []byte(b))
	h.Tag = tag
	head, f := header.Encode(h)
	if e != api.OK || f != api.OK {
		t.Fatalf("%+v: %d, %d", h, e, f)
	}
	write(t, fast, headAt(h.Slot), string(head))
	write(t, fast, sealedAt(h.Slot), string(sealed))
	flush(t, fast)
}

// told: what two disks with power keep, by the document's words alone: the table, and each volume's blocks; the text is empty of a sector that is not what was sealed.
func told(t testing.TB, fast, slow *disk.Disk, slots int) (api.Table, map[int][]string) {
	t.Helper()
	v, e := vault.Open(fast, slots)
	if e != api.OK {
		t.Fatalf("vault.Open: %d", e)
	}
	at := v.Table()
	var heads []api.Head
	for slot := range slots {
		h, _ := header.Decode([]byte(sector(t, fast, headAt(slot))))
		heads = append(heads, h)
	}
	counting, _, e := header.Newest(at, heads)
	if e != api.OK {
		t.Fatalf("Newest: %d", e)
	}
	values := map[int][]string{}
	for _, v := range at.Volumes {
		values[v.Id] = []string{}
		for block := range v.Blocks {
			values[v.Id] = append(values[v.Id], sector(t, slow, v.Id*32+block))
		}
	}
	for _, h := range counting {
		i := slices.IndexFunc(at.Tenants, func(x api.Tenant) bool { return x.Id == h.Tenant })
		b, _ := seal.Open(at.Tenants[i].Key, h, []byte(sector(t, fast, sealedAt(h.Slot))))
		values[h.Volume][h.Block] = string(b)
	}
	return at, values
}

// answered: what a keeper's cache says of each volume's blocks, likewise.
func answered(t testing.TB, k *volume.Keeper) map[int][]string {
	t.Helper()
	values := map[int][]string{}
	for _, v := range k.Cache().Vault().Table().Volumes {
		values[v.Id] = []string{}
		for block := range v.Blocks {
			b, e := k.Cache().Read(v.Id, block)
			if e != api.OK && e != api.ErrSeal || e == api.OK && len(b) != api.Sector {
				t.Fatalf("Read(%d, %d): %x, %d", v.Id, block, b, e)
			}
			values[v.Id] = append(values[v.Id], string(b))
		}
	}
	return values
}

// same: do two tables hold the same? Nil and empty lists are.
func same(a, b api.Table) bool {
	return slices.Equal(a.Tenants, b.Tenants) && slices.Equal(a.Volumes, b.Volumes) && slices.Equal(a.Owners, b.Owners)
}

// The document's words, over again: tenants and volumes by their Ids.

// written is a write that was made of a volume.
type written struct {
	block int
	text  string
}

// vol is a volume: what its blocks were once, and what was written since.
type vol struct {
	tenant int
	first  []string
	writes []written
	sure   int // so many of them last
}

// behind: its blocks behind so many of its writes.
func (v vol) behind(writes int) []string {
	list := slices.Clone(v.first)
	for _, w := range v.writes[:writes] {
		list[w.block] = w.text
	}
	return list
}

func (v vol) now() []string { return v.behind(len(v.writes)) }

// world is all that there is.
type world struct {
	slots   int
	tenants map[int]api.Tenant
	volumes map[int]vol
}

func (w world) clone() world {
	next := world{w.slots, maps.Clone(w.tenants), maps.Clone(w.volumes)}
	for id, v := range next.volumes {
		v.writes = slices.Clone(v.writes)
		next.volumes[id] = v
	}
	return next
}

// quotas: of all tenants but one.
func (w world) quotas(but ...int) int {
	sum := 0
	for id, t := range w.tenants {
		if !slices.Contains(but, id) {
			sum += t.Quota
		}
	}
	return sum
}

// is: does a table hold the same tenants and volumes?
func (w world) is(at api.Table) bool {
	if len(at.Tenants) != len(w.tenants) || len(at.Volumes) != len(w.volumes) || len(at.Owners) != w.slots || table.Check(at) != api.OK {
		return false
	}
	for _, t := range at.Tenants {
		if t != w.tenants[t.Id] {
			return false
		}
	}
	for _, v := range at.Volumes {
		if own, there := w.volumes[v.Id]; !there || v.Tenant != own.tenant || v.Blocks != len(own.first) {
			return false
		}
	}
	return true
}

// has: are these the volumes' values, each behind some number of its writes that has all those that last? Then they are forgotten that do not.
func (w world) has(values map[int][]string) bool {
	for id, v := range w.volumes {
		n := len(v.writes)
		for n >= v.sure && !slices.Equal(values[id], v.behind(n)) {
			n--
		}
		if n < v.sure {
			return false
		}
		v.writes, v.sure = v.writes[:n], n
		w.volumes[id] = v
	}
	return true
}

// step is a call: what it does, the error that the document's words ask for, and what it makes of the world when it is done.
type step struct {
	name string
	call func(k *volume.Keeper) api.Errno
	want func(w world) api.Errno
	then func(w world)
	// What of the last step may be there behind a crash, if it was cut off: nothing, or all of it, or a write.
	kind int
}

const (
	nothing = iota
	whole
	write1
)

func in(n, least, most int) bool { return least <= n && n <= most }

// refusal is a condition and the error that is answered if it holds.
type refusal struct {
	holds bool
	e     api.Errno
}

// first: the error of the first condition that holds.
func first(list ...refusal) api.Errno {
	for _, c := range list {
		if c.holds {
			return c.e
		}
	}
	return api.OK
}

func there[T any](m map[int]T, id int) bool { _, ok := m[id]; return ok }

// anyTenant: made as it is told.
func anyTenant(t api.Tenant) step {
	return step{"tenant", func(k *volume.Keeper) api.Errno { return k.Tenant(t) }, func(w world) api.Errno {
		formed := in(t.Id, 1, 7) && in(t.Quota, 1, 64) && in(t.Rate, 0, 4294967296) && in(t.Burst, 1, 64) && len(t.Key) == 16
		return first(refusal{!formed, api.ErrArg}, refusal{there(w.tenants, t.Id), api.ErrTwice}, refusal{w.quotas()+t.Quota > w.slots, api.ErrSpace}, refusal{t.Dying, api.ErrArg})
	}, func(w world) { w.tenants[t.Id] = t }, whole}
}

func tenant(id, quota int) step {
	return anyTenant(api.Tenant{Id: id, Quota: quota, Rate: 65536 * 3, Burst: 5, Key: keyOf(id)})
}

func setQuota(id, quota int) step {
	return step{"quota", func(k *volume.Keeper) api.Errno { return k.Quota(id, quota) }, func(w world) api.Errno {
		return first(refusal{!in(id, 1, 7) || !in(quota, 1, 64), api.ErrArg}, refusal{!there(w.tenants, id), api.ErrNone}, refusal{w.quotas(id)+quota > w.slots, api.ErrSpace})
	}, func(w world) {
		t := w.tenants[id]
		t.Quota = quota
		w.tenants[id] = t
	}, whole}
}

func remove(id int) step {
	return step{"delete", func(k *volume.Keeper) api.Errno { return k.Delete(id) }, func(w world) api.Errno {
		return first(refusal{!there(w.tenants, id), api.ErrNone})
	}, func(w world) {
		delete(w.tenants, id)
		maps.DeleteFunc(w.volumes, func(_ int, v vol) bool { return v.tenant == id })
	}, whole}
}

func newVolume(id, of, blocks int) step {
	return step{"volume", func(k *volume.Keeper) api.Errno { return k.Volume(id, of, blocks) }, func(w world) api.Errno {
		return first(refusal{!in(id, 0, 7) || !in(of, 1, 7) || !in(blocks, 0, 32), api.ErrArg}, refusal{there(w.volumes, id), api.ErrTwice}, refusal{!there(w.tenants, of), api.ErrNone})
	}, func(w world) {
		w.volumes[id] = vol{tenant: of, first: slices.Repeat([]string{zeros}, blocks)}
	}, whole}
}

func resize(id, blocks int) step {
	return step{"resize", func(k *volume.Keeper) api.Errno { return k.Resize(id, blocks) }, func(w world) api.Errno {
		return first(refusal{!in(id, 0, 7) || !in(blocks, 0, 32), api.ErrArg}, refusal{!there(w.volumes, id), api.ErrNone})
	}, func(w world) {
		v := w.volumes[id]
		now := append(v.now(), slices.Repeat([]string{zeros}, 32)...)
		w.volumes[id] = vol{tenant: v.tenant, first: now[:blocks]}
	}, whole}
}

func drop(id int) step {
	return step{"drop", func(k *volume.Keeper) api.Errno { return k.Drop(id) }, func(w world) api.Errno {
		return first(refusal{!in(id, 0, 7), api.ErrArg}, refusal{!there(w.volumes, id), api.ErrNone})
	}, func(w world) { delete(w.volumes, id) }, whole}
}

func rebalance(ids []int, curves ...api.Curve) step {
	shares := func(w world) ([]int, api.Errno) {
		return solve.Greedy(w.slots-w.quotas(ids...), slices.Repeat([]int{1}, len(ids)), curves...)
	}
	return step{"rebalance", func(k *volume.Keeper) api.Errno { return k.Rebalance(ids, curves...) }, func(w world) api.Errno {
		seen, twice, missing := map[int]int{}, false, false
		for _, id := range ids {
			seen[id]++
			twice = twice || seen[id] > 1
			missing = missing || !there(w.tenants, id)
		}
		_, e := shares(w)
		return first(refusal{len(ids) != len(curves) || len(ids) == 0, api.ErrArg}, refusal{twice, api.ErrTwice}, refusal{missing, api.ErrNone}, refusal{e != api.OK, e})
	}, func(w world) {
		list, _ := shares(w)
		for i, id := range ids {
			t := w.tenants[id]
			t.Quota = list[i]
			w.tenants[id] = t
		}
	}, whole}
}

// Steps of the keeper's cache.

func put(id, block, n int) step {
	return step{"put", func(k *volume.Keeper) api.Errno { return k.Cache().Write(id, block, []byte(text(n))) }, func(w world) api.Errno {
		return first(refusal{!there(w.volumes, id), api.ErrNone}, refusal{!in(block, 0, len(w.volumes[id].first)-1), api.ErrRange})
	}, func(w world) {
		v := w.volumes[id]
		v.writes = append(v.writes, written{block, text(n)})
		w.volumes[id] = v
	}, write1}
}

func sure(id int) step {
	return step{"flush", func(k *volume.Keeper) api.Errno { return k.Cache().Flush(id) }, func(w world) api.Errno {
		return first(refusal{!there(w.volumes, id), api.ErrNone})
	}, func(w world) {
		v := w.volumes[id]
		v.sure = len(v.writes)
		w.volumes[id] = v
	}, nothing}
}

func clean(id int) step {
	return step{"clean", func(k *volume.Keeper) api.Errno { return k.Cache().Clean(id) }, func(w world) api.Errno {
		return first(refusal{!there(w.tenants, id), api.ErrNone})
	}, func(w world) {
		for n, v := range w.volumes {
			if v.tenant == id {
				v.sure = len(v.writes)
				w.volumes[n] = v
			}
		}
	}, nothing}
}

// rig is a keeper, its disks, and what should be there.
type rig struct {
	testing.TB
	fast, slow *disk.Disk
	k          *volume.Keeper
	hasty      bool // what lasts is not looked at behind each step
	world
}

// rigOf: over new disks; on the slow one there is something in each sector.
func rigOf(t testing.TB, slots int, list ...step) *rig {
	t.Helper()
	r := &rig{TB: t, fast: made(t, areas+2*slots), slow: made(t, allSlow), world: world{slots, map[int]api.Tenant{}, map[int]vol{}}}
	for n := range allSlow {
		write(t, r.slow, n, text(-1-n))
	}
	flush(t, r.slow)
	r.open()
	r.do(list...)
	return r
}

func (r *rig) open() {
	r.Helper()
	k, e := volume.Open(r.fast, r.slow, r.slots)
	if k == nil || e != api.OK {
		r.Fatalf("Open: %v, %d", k, e)
	}
	r.k = k
}

// try: a step that may be refused; what it answers, but for ErrPower, is what the document's words ask for.
func (r *rig) try(s step) api.Errno {
	r.Helper()
	want := s.want(r.world)
	e := s.call(r.k)
	switch {
	case e == api.ErrPower:
		return e
	case e != want:
		r.Fatalf("%s: %d, want %d", s.name, e, want)
	case e == api.OK:
		s.then(r.world)
	}
	return e
}

// do: steps of which all are OK; each of the keeper leaves all as it should be.
func (r *rig) do(list ...step) {
	r.Helper()
	for i, s := range list {
		if e := r.try(s); e != api.OK {
			r.Fatalf("step %d, %s: %d", i, s.name, e)
		}
		if s.kind == whole && !r.hasty {
			r.lasts(s.name)
		}
	}
}

// lasts: behind a call of the keeper what it did lasts, and what it did away with has bytes 0.
func (r *rig) lasts(name string) {
	r.Helper()
	at := r.k.Cache().Vault().Table()
	if !r.is(at) {
		r.Fatalf("%s: the table is %+v, want %+v", name, at, r.world)
	}
	v, e := vault.Open(r.kept(r.fast), r.slots)
	if e != api.OK || !same(v.Table(), at) {
		r.Fatalf("%s: there lasts %+v, %d, want %+v", name, v.Table(), e, at)
	}
	r.blank(name, at)
	if name == "delete" || name == "drop" || name == "resize" {
		r.emptied(name, at)
	}
}

// blank: nobody's slots and what no block has have bytes 0, lasting.
func (r *rig) blank(name string, at api.Table) {
	r.Helper()
	for slot, owner := range at.Owners {
		if owner == 0 && lasting(r, r.fast, headAt(slot))+lasting(r, r.fast, sealedAt(slot)) != zeros+zeros {
			r.Fatalf("%s: nobody's slot %d has other bytes than 0", name, slot)
		}
	}
	for n := range allSlow {
		v, there := r.volumes[n/32]
		if (!there || n%32 >= len(v.first)) && lasting(r, r.slow, n) != zeros {
			r.Fatalf("%s: sector %d has %x", name, n, lasting(r, r.slow, n))
		}
	}
}

// emptied: slots have a head that counts, or 128 bytes 0, lasting.
func (r *rig) emptied(name string, at api.Table) {
	r.Helper()
	for slot := range at.Owners {
		if h, e := header.Decode([]byte(lasting(r, r.fast, headAt(slot)))); e == api.OK && good(at, slot, h) {
			continue
		}
		if lasting(r, r.fast, headAt(slot))+lasting(r, r.fast, sealedAt(slot)) != zeros+zeros {
			r.Fatalf("%s: slot %d has other bytes than 0", name, slot)
		}
	}
}

// good: is a head, by the document's words?
func good(at api.Table, slot int, h api.Head) bool {
	return slices.ContainsFunc(at.Volumes, func(v api.Volume) bool {
		return v.Id == h.Volume && h.Slot == slot && h.Tenant == at.Owners[slot] && h.Tenant == v.Tenant && h.Block < v.Blocks && h.Version >= 1
	})
}

// kept: a disk with what lasts of another one.
func (r *rig) kept(d *disk.Disk) *disk.Disk {
	r.Helper()
	other := made(r, areas+2*r.slots)
	for n := range areas + 2*r.slots {
		if b := lasting(r, d, n); b != zeros {
			write(r, other, n, b)
		}
	}
	return other
}

// right: all that can be asked of a keeper with power.
func (r *rig) right() {
	r.Helper()
	at, values := told(r, r.fast, r.slow, r.slots)
	if now := r.k.Cache().Vault().Table(); !same(at, now) || !r.is(now) {
		r.Fatalf("the table is %+v, the disks keep %+v, want %+v", now, at, r.world)
	}
	if got := answered(r, r.k); !reflect.DeepEqual(got, values) {
		r.Fatalf("the cache answers %x, the disks keep %x", got, values)
	}
	for id, v := range r.volumes {
		if !slices.Equal(values[id], v.now()) {
			r.Fatalf("volume %d is %x, want %x", id, values[id], v.now())
		}
	}
	r.blank("at any time", at)
}

// everything is all that can be asked of a keeper and of disks with power.
type everything struct {
	table       api.Table
	generation  int
	heads       []api.Head
	fast, slow  []string
	pendingFast int
	pendingSlow int
}

func sectors(t testing.TB, d *disk.Disk, n int) []string {
	t.Helper()
	var list []string
	for i := range n {
		list = append(list, sector(t, d, i), lasting(t, d, i))
	}
	return list
}

func (r *rig) all() everything {
	r.Helper()
	return everything{
		table:       r.k.Cache().Vault().Table(),
		generation:  r.k.Cache().Vault().Generation(),
		heads:       r.k.Cache().Heads(),
		fast:        sectors(r, r.fast, areas+2*r.slots),
		slow:        sectors(r, r.slow, allSlow),
		pendingFast: r.fast.Pending(),
		pendingSlow: r.slow.Pending(),
	}
}

// back: behind a crash the disks keep one of these worlds, some number of each volume's writes made; that one is it then.
func (r *rig) back(perhaps ...world) (which int) {
	r.Helper()
	r.open()
	at, values := told(r, r.fast, r.slow, r.slots)
	for i, w := range perhaps {
		if w = w.clone(); w.is(at) && w.has(values) {
			r.world = w
			return i
		}
	}
	r.Fatalf("the disks keep %+v, %x, want one of %+v", at, values, perhaps)
	return 0
}

// refused: steps of which none is done, and that change nothing.
func (r *rig) refused(list ...step) {
	r.Helper()
	ahead, c := r.all(), r.k.Cache()
	for i, s := range list {
		if e := r.try(s); e == api.OK || e == api.ErrPower {
			r.Fatalf("step %d, %s: %d", i, s.name, e)
		}
		if r.k.Cache() != c {
			r.Fatalf("step %d, %s: there is another cache", i, s.name)
		}
	}
	if !reflect.DeepEqual(r.all(), ahead) {
		r.Fatalf("a refused call changed something")
	}
}

// P20.1

func notOpened(t *testing.T, fast, slow *disk.Disk, slots int, want api.Errno) {
	t.Helper()
	if k, e := volume.Open(fast, slow, slots); k != nil || e != want {
		t.Errorf("Open with %d slots: %v, %d, want %d", slots, k, e, want)
	}
}

func TestOpenOfWrongThings(t *testing.T) {
	for _, power := range []bool{true, false} {
		disks := func(fastSectors, slowSectors int) (fast, slow *disk.Disk) {
			fast, slow = made(t, fastSectors), made(t, slowSectors)
			if !power {
				dark(t, fast)
				dark(t, slow)
			}
			return fast, slow
		}
		fast, slow := disks(api.MaxSectors, api.MaxSectors)
		notOpened(t, nil, slow, 4, api.ErrArg)
		notOpened(t, fast, nil, 4, api.ErrArg)
		notOpened(t, nil, nil, 4, api.ErrArg)
		notOpened(t, &disk.Disk{}, slow, 4, api.ErrArg)
		notOpened(t, fast, &disk.Disk{}, 4, api.ErrArg)
		for _, slots := range []int{0, -1, 65, 1<<32 + 4, math.MaxInt, math.MinInt} {
			notOpened(t, fast, slow, slots, api.ErrArg)
		}
		fast, slow = disks(areas+7, allSlow)
		notOpened(t, fast, slow, 4, api.ErrArg)
		fast, slow = disks(areas+8, allSlow-1)
		notOpened(t, fast, slow, 4, api.ErrArg)
	}
}

func TestOpenWithoutPower(t *testing.T) {
	fast, slow := made(t, areas+8), made(t, allSlow)
	dark(t, slow)
	notOpened(t, fast, slow, 4, api.ErrPower)
	dark(t, fast)
	notOpened(t, fast, slow, 4, api.ErrPower)
	slow.Crash()
	notOpened(t, fast, slow, 4, api.ErrPower)
	fast.Crash()
	if k, e := volume.Open(fast, slow, 4); k == nil || e != api.OK {
		t.Errorf("with power: %d", e)
	}
}

func TestOpenOfTablesThatCannotBeMade(t *testing.T) {
	r := rigOf(t, 8, tenant(1, 8), newVolume(0, 1, 9), put(0, 0, 1))
	write(t, r.slow, 200, text(1))
	dark(t, r.slow)
	notOpened(t, r.fast, r.slow, 7, api.ErrForm)
	r.slow.Crash(true)
	notOpened(t, r.fast, r.slow, 7, api.ErrForm)
	if sector(t, r.slow, 200) != text(1) {
		t.Error("Open wrote")
	}
	r.open()
	r.right()
}

// Sectors that belong to no block have bytes 0, those behind all blocks too; the others stay.
func TestOpenMakesBlank(t *testing.T) {
	for _, more := range []int{0, 1, 40, api.MaxSectors - allSlow} {
		for _, pending := range []bool{false, true} {
			fast, slow := made(t, areas+4), made(t, allSlow+more)
			lay(t, fast, 2, api.Rec{Kind: api.RecTenant, A: 2, B: 1, D: 1, Key: keyOf(2)}, api.Rec{Kind: api.RecVolume, A: 0, B: 2, C: 1}, api.Rec{Kind: api.RecVolume, A: 2, B: 2, C: 32}, api.Rec{Kind: api.RecVolume, A: 7, B: 2, C: 31}, api.Rec{Kind: api.RecVolume, A: 4, B: 2})
			for n := range allSlow + more {
				write(t, slow, n, text(1+n))
			}
			if !pending {
				flush(t, slow)
				for n := range allSlow + more {
					write(t, slow, n, text(-1-n))
				}
			}
			for n := areas; n < areas+4; n++ {
				write(t, fast, n, text(n))
			}
			if k, e := volume.Open(fast, slow, 2); k == nil || e != api.OK {
				t.Fatalf("Open: %d", e)
			}
			for n := areas; n < areas+4; n++ {
				if lasting(t, fast, n)+sector(t, fast, n) != zeros+zeros {
					t.Fatalf("nobody's slots have %x", lasting(t, fast, n))
				}
			}
			for n := range allSlow + more {
				want := text(-1 - n)
				if pending {
					want = text(1 + n)
				}
				if n > 0 && n < 64 || n > 95 && n < 224 || n > 254 {
					want = zeros
					if lasting(t, slow, n) != want {
						t.Fatalf("in sector %d there lasts %x", n, lasting(t, slow, n))
					}
				}
				if sector(t, slow, n) != want {
					t.Fatalf("sector %d has %x, want %x", n, sector(t, slow, n), want)
				}
			}
		}
	}
}

// crafted: tenants 1, 2 and 5, of which some are dying, with volumes, slots and heads.
func crafted(t testing.TB, dying ...int) *rig {
	t.Helper()
	r := &rig{TB: t, fast: made(t, areas+16), slow: made(t, allSlow), world: world{8, map[int]api.Tenant{}, map[int]vol{}}}
	list := []api.Rec{}
	for _, id := range []int{1, 2, 5} {
		list = append(list, api.Rec{Kind: api.RecTenant, A: id, B: 2, C: 7, D: 1, Key: keyOf(id)})
		r.tenants[id] = api.Tenant{Id: id, Quota: 2, Rate: 7, Burst: 1, Key: keyOf(id)}
	}
	for n := range allSlow {
		write(t, r.slow, n, text(-1-n))
	}
	flush(t, r.slow)
	for id, of := range []int{1, 2, 5, 1, 2} {
		list = append(list, api.Rec{Kind: api.RecVolume, A: id, B: of, C: 3})
		r.volumes[id] = vol{tenant: of, first: []string{text(-1 - id*32), text(-2 - id*32), text(-3 - id*32)}}
	}
	for slot, owner := range []int{0, 1, 2, 5, 0, 1, 2} {
		if owner > 0 {
			list = append(list, api.Rec{Kind: api.RecOwn, A: slot, B: owner})
		}
	}
	lay(t, r.fast, 8, list...)
	for slot, id := range []int{-1, 0, 1, 2, -1, 3, 4} {
		if id >= 0 {
			layHead(t, r.fast, api.Head{Tenant: r.volumes[id].tenant, Volume: id, Block: 1, Slot: slot, Version: 1}, text(1000+slot))
			r.volumes[id].first[1] = text(1000 + slot)
		}
	}
	for _, id := range dying {
		lay(t, r.fast, 8, api.Rec{Kind: api.RecDying, A: id})
		remove(id).then(r.world)
	}
	return r
}

// Deletions that were begun are finished, however far they had come; other tenants keep all that they have.
func TestOpenFinishesDeletions(t *testing.T) {
	for _, dying := range [][]int{nil, {1}, {2}, {5}, {1, 2}, {2, 5}, {1, 2, 5}} {
		for _, further := range []int{0, 1, 2} {
			r := crafted(t, dying...)
			for _, id := range dying {
				v, _ := vault.Open(r.fast, 8)
				for _, x := range v.Table().Volumes {
					if x.Tenant == id && further > 0 {
						lay(t, r.fast, 8, api.Rec{Kind: api.RecDrop, A: x.Id})
					}
				}
				for slot, owner := range v.Table().Owners {
					if owner == id && further > 1 {
						write(t, r.fast, headAt(slot), zeros)
						write(t, r.fast, sealedAt(slot), zeros)
						lay(t, r.fast, 8, api.Rec{Kind: api.RecOwn, A: slot})
					}
				}
			}
			r.open()
			r.lasts("delete")
			r.right()
			for _, id := range dying {
				own := map[int]int{1: 0, 2: 1, 5: 2}[id]
				r.do(tenant(id, 2), newVolume(7, id, 32), newVolume(own, id, 4))
				r.right()
				r.do(put(7, 31, 5), put(own, 1, 6))
				r.right()
				r.do(remove(id))
			}
		}
	}
}

// What stands on disks is there behind Open, lasting.
func TestOpenOnceMore(t *testing.T) {
	r := rigOf(t, 4, tenant(2, 3), tenant(7, 1), newVolume(3, 2, 5), newVolume(0, 7, 2))
	for i := range 20 {
		r.do(put(3, i*i%5, i), put(0, i%2, 100+i))
		if i%4 == 3 {
			r.open()
			r.right()
			r.fast.Crash()
			r.slow.Crash()
			r.open()
			r.right()
		}
	}
}

// P20.2

func TestNilKeeper(t *testing.T) {
	var k *volume.Keeper
	if c := k.Cache(); c != nil {
		t.Errorf("Cache() = %v", c)
	}
	for i, e := range every(k) {
		if e != api.ErrClosed {
			t.Errorf("call %d: %d", i, e)
		}
	}
}

// A keeper that was not opened has nothing.
func TestAKeeperThatWasNotOpened(t *testing.T) {
	k := &volume.Keeper{}
	if c := k.Cache(); c != nil {
		t.Errorf("Cache() = %v", c)
	}
	for i, e := range every(k) {
		if e != api.ErrClosed {
			t.Errorf("call %d: %d", i, e)
		}
	}
}

// every: what each call answers, right ones and wrong ones.
func every(k *volume.Keeper) []api.Errno {
	list := []api.Errno{
		k.Tenant(api.Tenant{}), k.Tenant(api.Tenant{Id: 6, Quota: 1, Burst: 1, Key: keyOf(6)}), k.Tenant(api.Tenant{Id: 6, Quota: 1, Burst: 1, Key: keyOf(6), Dying: true}),
		k.Rebalance(nil), k.Rebalance([]int{1}), k.Rebalance([]int{1, 1}, nil, nil), k.Rebalance([]int{1}, api.Curve{0, 1}), k.Rebalance([]int{2}, nil),
	}
	for _, n := range []int{math.MinInt, -1, 0, 1, 2, 3, 6, 8, 33, 65, math.MaxInt} {
		list = append(list, k.Quota(n, 1), k.Quota(1, n), k.Delete(n), k.Volume(n, 1, 1), k.Volume(5, n, 1), k.Volume(5, 1, n), k.Resize(n, 1), k.Resize(0, n), k.Drop(n))
	}
	return list
}

// ends: numbers that no tenant, volume or number of blocks is.
func ends() []int {
	return []int{math.MinInt, math.MinInt + 1, -1 << 32, -64, -1, 65, 256, 1<<32 + 1, math.MaxInt - 1, math.MaxInt}
}

func TestRefusals(t *testing.T) {
	r := rigOf(t, 6, tenant(2, 3), tenant(5, 2), newVolume(0, 2, 5), newVolume(3, 5, 32), newVolume(6, 2, 0))
	for i := range 9 {
		r.do(put(0, i%5, i), put(3, i*3, i))
	}
	for _, n := range append(ends(), 0, 1, 2, 3, 4, 5, 6, 7, 8, 9, 31, 32, 33, 64) {
		var list []step
		for _, m := range append(ends(), 0, 1, 2, 3, 5, 7, 8, 32, 33, 64) {
			good := api.Tenant{Id: 4, Quota: 1, Burst: 1, Key: keyOf(4)}
			id, quota, rate, burst := good, good, good, good
			id.Id, quota.Quota, rate.Rate, burst.Burst = n, n, n, n
			// Of a tenant that is there, ErrTwice goes ahead; of one for which there is no room, ErrSpace; of Dying it comes last.
			for _, x := range []api.Tenant{id, quota, rate, burst} {
				list = append(list, anyTenant(x))
				x.Dying = true
				list = append(list, anyTenant(x))
				x.Quota = m
				list = append(list, anyTenant(x))
				x.Id = m
				list = append(list, anyTenant(x))
			}
			list = append(list, setQuota(n, m), newVolume(n, m, 4), newVolume(n, 2, m), newVolume(4, n, m), resize(n, m), drop(n), remove(n))
		}
		list = slices.DeleteFunc(list, func(s step) bool { return s.want(r.world) == api.OK })
		r.refused(list...)
	}
	for _, key := range []string{"", "k", keyOf(1)[:15], keyOf(1) + "k", strings.Repeat("k", 1<<16)} {
		r.refused(anyTenant(api.Tenant{Id: 4, Quota: 1, Burst: 1, Key: key}), anyTenant(api.Tenant{Id: 2, Quota: 9, Burst: 1, Key: key}))
	}
	r.refused(
		anyTenant(api.Tenant{Id: 4, Quota: 1, Burst: 1, Rate: api.MaxFixed + 1, Key: keyOf(4)}),
		anyTenant(api.Tenant{Id: 4, Quota: 1, Burst: 1, Key: keyOf(4), Dying: true}),
		anyTenant(api.Tenant{Id: 4, Quota: 2, Burst: 1, Key: keyOf(4), Dying: true}),
		anyTenant(api.Tenant{Id: 5, Quota: 9, Burst: 1, Key: keyOf(4), Dying: true}),
		tenant(4, 2), setQuota(2, 5), setQuota(5, 4), setQuota(1, 1), setQuota(1, 7), setQuota(2, 0), setQuota(0, 1), newVolume(0, 1, 1), newVolume(1, 1, 1), newVolume(0, 2, 33), resize(1, 1), resize(1, 33),
	)
	r.right()
}

func TestRefusalsOfRebalance(t *testing.T) {
	r := rigOf(t, 9, tenant(2, 3), tenant(5, 2), tenant(7, 1), newVolume(0, 2, 5), newVolume(3, 5, 4))
	for i := range 9 {
		r.do(put(0, i%5, i), put(3, i%4, i))
	}
	good, bad := api.Curve{0, 3, 4}, api.Curve{3, 2}
	r.refused(
		rebalance(nil), rebalance([]int{2}), rebalance(nil, good), rebalance([]int{2, 2}, good), rebalance([]int{2}, good, bad), rebalance([]int{9, 9, 9}, bad),
		rebalance([]int{2, 2}, good, good), rebalance([]int{5, 2, 5}, good, good, bad), rebalance([]int{4, 2, 4}, good, bad, bad), rebalance([]int{-1, -1}, good, good),
		rebalance([]int{4}, good), rebalance([]int{2, 4}, bad, bad), rebalance([]int{0, 2}, nil, good), rebalance([]int{2, 5, 8}, good, good, good), rebalance([]int{math.MinInt, math.MaxInt}, good, good),
		rebalance([]int{2}, bad), rebalance([]int{2}, nil), rebalance([]int{2, 5}, good, bad), rebalance([]int{2, 5, 7}, good, good, api.Curve{-1}),
		rebalance([]int{2}, make(api.Curve, api.MaxList+1)),
	)
	all := make([]int, 1<<20)
	for i := range all {
		all[i] = i
	}
	r.refused(rebalance(all, make([]api.Curve, len(all))...), rebalance(all, good), rebalance(slices.Repeat([]int{2}, len(all)), make([]api.Curve, len(all))...))
	r.right()
}

// A dying tenant is refused, ahead of what its curve is; it is there only when that was committed otherwise.
func TestRebalanceOfDyingTenants(t *testing.T) {
	r := rigOf(t, 9, tenant(2, 3), tenant(5, 2))
	if e := r.k.Cache().Vault().Commit(api.Rec{Kind: api.RecDying, A: 5}); e != api.OK {
		t.Fatal(e)
	}
	for _, c := range []struct {
		e, want api.Errno
	}{
		{r.k.Rebalance([]int{2, 5}, nil, nil), api.ErrBusy},
		{r.k.Rebalance([]int{5, 4}, nil, nil), api.ErrNone},
		{r.k.Rebalance([]int{5}, api.Curve{0, 1}), api.ErrBusy},
		{r.k.Quota(5, 1), api.ErrBusy},
		{r.k.Quota(5, 1), api.ErrBusy},
		{r.k.Quota(5, 64), api.ErrBusy},
		{r.k.Quota(5, 65), api.ErrArg},
		{r.k.Volume(0, 5, 1), api.ErrBusy},
		{r.k.Rebalance([]int{2}, api.Curve{0, 1}), api.OK},
		{r.k.Delete(5), api.OK},
		{r.k.Delete(5), api.ErrNone},
	} {
		if c.e != c.want {
			t.Errorf("%d, want %d", c.e, c.want)
		}
	}
}

// Tenants and volumes are as they were told, at each end of their numbers.
func TestTenantsAndVolumes(t *testing.T) {
	for _, x := range []api.Tenant{
		{Id: 1, Quota: 1, Rate: 0, Burst: 1, Key: strings.Repeat("\x00", 16)},
		{Id: 7, Quota: 64, Rate: 1 << 32, Burst: 64, Key: strings.Repeat("\xff", 16)},
	} {
		for _, blocks := range []int{0, 1, 31, 32} {
			r := rigOf(t, 64, anyTenant(x), newVolume(0, x.Id, blocks), newVolume(7, x.Id, blocks))
			r.right()
			if blocks > 0 {
				r.do(put(0, blocks-1, 1), put(7, blocks-1, 2), put(0, 0, 3))
				r.right()
			}
			r.refused(anyTenant(x), newVolume(0, x.Id, blocks), newVolume(7, x.Id, blocks))
			r.do(resize(0, 32-blocks), resize(7, 32-blocks))
			r.right()
			r.do(drop(7), drop(0))
			r.right()
			r.do(remove(x.Id))
			r.right()
		}
	}
}

// Blocks of a new volume have bytes 0, whoever had one of its Id ahead of it.
func TestNewVolumes(t *testing.T) {
	r := rigOf(t, 3, tenant(1, 2), tenant(2, 1))
	for i := range 12 {
		of := 1 + i%3/2
		r.do(newVolume(4, of, 1+i*i%7))
		r.right()
		for n := range 10 {
			r.do(put(4, n*n%len(r.volumes[4].first), 100*i+n))
		}
		if i%4 == 1 {
			r.do(sure(4))
		}
		if i%4 == 2 {
			r.do(clean(of))
		}
		r.right()
		r.do(drop(4))
		r.right()
	}
}

// Blocks that are left keep their values, wherever they stand, and those that come have bytes 0.
func TestResize(t *testing.T) {
	for _, slots := range []int{1, 2, 4, 9, 30} {
		r := rigOf(t, slots+2, tenant(1, slots), tenant(2, 2), newVolume(2, 1, 8), newVolume(3, 1, 8), newVolume(5, 2, 3))
		n := random(slots)
		for i := range 60 {
			for range n.Intn(12) {
				for _, id := range []int{2, 3, 5} {
					if blocks := len(r.volumes[id].first); blocks > 0 {
						r.do(put(id, n.Intn(blocks), n.Int()))
					}
				}
			}
			switch n.Intn(6) {
			case 0:
				r.do(sure(2))
			case 1:
				r.do(clean(1))
			}
			theirs := slices.DeleteFunc(r.k.Cache().Heads(), func(h api.Head) bool { return h.Tenant != 2 })
			r.do(resize(2+n.Intn(2), n.Intn(10)))
			if i%20 == 19 {
				r.do(resize(2, 0), resize(2, 32))
			}
			r.right()
			// Another tenant's newest heads stay.
			for _, h := range r.k.Cache().Heads() {
				if h.Tenant == 2 && !slices.Contains(theirs, h) {
					t.Fatalf("%+v is none of %+v", h, theirs)
				}
			}
			if i%3 == 0 {
				r.fast.Crash()
				r.slow.Crash()
				r.back(r.world)
				r.right()
			}
		}
	}
}

// What was written ahead of a Resize lasts behind it.
func TestResizeLasts(t *testing.T) {
	for _, blocks := range []int{0, 1, 3, 5, 6, 32} {
		r := rigOf(t, 8, tenant(1, 6), newVolume(2, 1, 5))
		for i := range 14 {
			r.do(put(2, i*i%5, i))
		}
		r.do(resize(2, blocks))
		r.fast.Crash()
		r.slow.Crash()
		r.open()
		r.right()
	}
}

// ownedBy: how many slots a tenant has.
func (r *rig) ownedBy(id int) int { return table.Owned(r.k.Cache().Vault().Table(), id) }

func TestQuota(t *testing.T) {
	r := rigOf(t, 9, tenant(1, 6), tenant(4, 3), newVolume(2, 1, 8), newVolume(0, 4, 3))
	for i := range 40 {
		r.do(put(2, i*i%8, i), put(0, i%3, i))
	}
	for i, quota := range []int{6, 5, 5, 6, 1, 6, 3, 2, 4, 6} {
		ahead := r.ownedBy(1)
		r.do(setQuota(1, quota))
		if got := r.ownedBy(1); got != min(ahead, quota) {
			t.Errorf("it owns %d slots, owned %d, has Quota %d", got, ahead, quota)
		}
		if got := r.ownedBy(4); got != 3 {
			t.Errorf("another one owns %d slots", got)
		}
		r.right()
		for n := range 12 {
			r.do(put(2, n*n%8, 1000*i+n), put(0, n%3, 1000*i+n))
		}
		if got := r.ownedBy(1); got != quota {
			t.Errorf("it owns %d slots, has Quota %d", got, quota)
		}
		r.right()
	}
	r.do(setQuota(1, 1), setQuota(4, 8))
	r.refused(setQuota(1, 2), setQuota(4, 9), tenant(2, 1))
	r.do(setQuota(4, 7), tenant(2, 1))
	r.right()
}

// Who does not own more is not cleaned.
func TestQuotaLeavesBlocks(t *testing.T) {
	r := rigOf(t, 9, tenant(1, 6), newVolume(2, 1, 8))
	r.do(put(2, 0, 1), put(2, 5, 2), put(2, 7, 3))
	for _, quota := range []int{7, 9, 4, 3} {
		ahead := r.k.Cache().Heads()
		r.do(setQuota(1, quota))
		if got := r.k.Cache().Heads(); !slices.Equal(got, ahead) {
			t.Errorf("Quota %d: %+v, want %+v", quota, got, ahead)
		}
	}
	r.do(setQuota(1, 2))
	for slot, h := range r.k.Cache().Heads() {
		if h != (api.Head{}) {
			t.Errorf("slot %d holds %+v", slot, h)
		}
	}
	r.right()
}

func TestRebalance(t *testing.T) {
	r := rigOf(t, 12, tenant(1, 6), tenant(4, 4), tenant(5, 1), newVolume(2, 1, 8), newVolume(0, 4, 5), newVolume(1, 5, 2))
	steep, flat, late := api.Curve{0, 9, 18, 27, 36, 45, 54}, api.Curve{0, 1, 2}, api.Curve{0, 0, 0, 100}
	for i, s := range []step{
		rebalance([]int{1, 4}, flat, steep), rebalance([]int{4, 1}, flat, steep), rebalance([]int{5}, flat), rebalance([]int{5, 1}, steep, flat), rebalance([]int{4, 5, 1}, late, flat, steep),
		rebalance([]int{1, 4, 5}, flat, flat, flat), rebalance([]int{4, 5}, api.Curve{7}, api.Curve{0}), rebalance([]int{1}, steep), rebalance([]int{5, 4, 1}, steep, steep, steep),
	} {
		for n := range 20 {
			r.do(put(2, n*n%8, 1000*i+n), put(0, n%5, 2000*i+n), put(1, n%2, 3000*i+n))
		}
		owned := map[int]int{1: r.ownedBy(1), 4: r.ownedBy(4), 5: r.ownedBy(5)}
		r.do(s)
		for id, n := range owned {
			if got := r.ownedBy(id); got != min(n, r.tenants[id].Quota) {
				t.Errorf("step %d: tenant %d owns %d slots, owned %d, has Quota %d", i, id, got, n, r.tenants[id].Quota)
			}
		}
		r.right()
	}
	// The shares are all that others leave.
	if got := r.quotas(); got != 12 {
		t.Errorf("all Quotas are %d", got)
	}
	r.do(rebalance([]int{1, 4, 5}, api.Curve{0, 5, 6}, api.Curve{0, 4, 8, 12, 13}, api.Curve{0, 1, 1}))
	if a, b, c := r.tenants[1].Quota, r.tenants[4].Quota, r.tenants[5].Quota; a != 7 || b != 4 || c != 1 {
		t.Errorf("Quotas %d, %d, %d", a, b, c)
	}
	r.do(remove(4), rebalance([]int{5, 1}, steep, late))
	if a, b := r.tenants[1].Quota, r.tenants[5].Quota; a != 1 || b != 11 {
		t.Errorf("Quotas %d, %d", a, b)
	}
}

func TestDelete(t *testing.T) {
	r := rigOf(t, 9, tenant(1, 5), tenant(4, 3), tenant(7, 1), newVolume(2, 1, 8), newVolume(0, 4, 3), newVolume(3, 1, 4), newVolume(5, 1, 0))
	for i := range 30 {
		r.do(put(2, i*i%8, i), put(0, i%3, i), put(3, i%4, -i))
	}
	r.do(remove(7))
	r.right()
	r.do(remove(1))
	r.right()
	if got := r.ownedBy(4); got != 3 {
		t.Errorf("tenant 4 owns %d slots", got)
	}
	r.refused(remove(1), remove(7), setQuota(1, 1), newVolume(2, 1, 1), resize(2, 1), drop(3))
	// Another one of its Id, with another key.
	r.do(anyTenant(api.Tenant{Id: 1, Quota: 6, Burst: 1, Key: keyOf(9)}), newVolume(2, 1, 8), newVolume(3, 4, 4))
	r.right()
	for i := range 30 {
		r.do(put(2, i*i%8, i), put(0, i%3, i), put(3, i%4, -i))
	}
	r.right()
	r.do(remove(4), remove(1))
	r.right()
	for _, owner := range r.k.Cache().Vault().Table().Owners {
		if owner != 0 {
			t.Errorf("slots are owned by %d", owner)
		}
	}
}

// Behind the last version the cache empties slots that it does not fill again; no block that goes is left in them.
func TestTheLastVersions(t *testing.T) {
	for below := range 5 {
		for _, s := range []step{drop(3), resize(3, 1), resize(3, 0), resize(3, 9), remove(2), setQuota(2, 1), rebalance([]int{2}, api.Curve{0})} {
			r := rigOf(t, 5, tenant(2, 3), tenant(4, 1), newVolume(3, 2, 4), newVolume(1, 2, 2))
			lay(t, r.fast, 5, api.Rec{Kind: api.RecBase, A: 3, B: api.MaxTime - below})
			r.open()
			r.do(put(1, 0, 5))
			for i := range 9 {
				r.do(put(3, i*i%4, i))
			}
			r.do(s)
			r.right()
			for id, v := range r.volumes {
				if len(v.first) > 0 {
					r.do(put(id, 0, 100), put(id, len(v.first)-1, 101), resize(id, 7), put(id, 6, 102))
				}
			}
			r.right()
			r.fast.Crash(true, true, true, true)
			r.slow.Crash()
			r.back(r.world)
			r.right()
		}
	}
}

// spoil: what a block's slot holds is another text by a byte.
func (r *rig) spoil(id, block int) {
	r.Helper()
	for slot, h := range r.k.Cache().Heads() {
		if h.Tenant > 0 && h.Volume == id && h.Block == block {
			b := []byte(sector(r, r.fast, sealedAt(slot)))
			b[slot] ^= 1
			write(r, r.fast, sealedAt(slot), string(b))
		}
	}
	flush(r, r.fast)
	if _, e := r.k.Cache().Read(id, block); e != api.ErrSeal {
		r.Fatalf("block %d of volume %d is read: %d", block, id, e)
	}
	v := r.volumes[id]
	v.writes = append(slices.Clone(v.writes), written{block: block})
	v.sure = len(v.writes)
	r.volumes[id] = v
}

// What can't be read stays so where it stays, and stands in the way only of cleaning.
func TestWhatWasNotSealed(t *testing.T) {
	start := func() *rig {
		r := rigOf(t, 12, tenant(1, 7), tenant(4, 2), tenant(6, 1), newVolume(2, 1, 8), newVolume(3, 1, 4), newVolume(0, 4, 3))
		for i := range 4 {
			r.do(put(2, i*2, i), put(3, i, i))
		}
		r.do(put(0, 0, 1), put(0, 1, 2))
		r.spoil(2, 6)
		r.spoil(3, 3)
		return r
	}
	for _, list := range [][]step{
		{drop(2), newVolume(2, 1, 8), put(3, 3, 1), setQuota(1, 2)},
		{drop(3), newVolume(3, 1, 4), resize(2, 7)},
		{resize(2, 6), resize(2, 7), resize(3, 3), resize(3, 4), setQuota(1, 1)},
		{resize(2, 7), resize(2, 6), resize(2, 32)},
		{remove(1), tenant(1, 7), newVolume(2, 1, 8), newVolume(3, 1, 4), setQuota(1, 2)},
		{put(2, 6, 9), put(3, 3, 8), setQuota(1, 2)},
		{setQuota(1, 8), tenant(5, 1)},
		{rebalance([]int{4, 6}, api.Curve{0, 1}, api.Curve{0, 9, 18})},
	} {
		r := start()
		r.right()
		r.do(list...)
		r.right()
		r.fast.Crash()
		r.slow.Crash()
		r.open()
		r.right()
	}
	r := start()
	flat, steep := api.Curve{0}, api.Curve{0, 9, 18, 27, 36, 45, 54, 63}
	ahead := r.all()
	for i, e := range []api.Errno{
		r.k.Quota(1, 3), r.k.Rebalance([]int{1, 4}, flat, steep), r.k.Rebalance([]int{4, 1, 6}, flat, flat, steep),
		// Tenant 4 could be cleaned, but is not, if the other one can't.
		r.k.Rebalance([]int{6, 4, 1}, steep, flat, flat),
	} {
		if e != api.ErrSeal {
			t.Errorf("call %d: %d", i, e)
		}
	}
	if !reflect.DeepEqual(r.all(), ahead) {
		t.Error("a refused call changed something")
	}
	r.right()
}

// A keeper goes by its newest cache, which knows all that was done.
func TestTheCache(t *testing.T) {
	r := rigOf(t, 4, tenant(1, 3))
	for i, s := range []step{newVolume(0, 1, 4), put(0, 3, 1), setQuota(1, 2), put(0, 2, 1), resize(0, 3), put(0, 1, 1), rebalance([]int{1}, api.Curve{0, 1}), put(0, 1, 2), drop(0), remove(1)} {
		r.do(s)
		if a, b := r.k.Cache(), r.k.Cache(); a == nil || a != b || a.Vault() != b.Vault() {
			t.Errorf("step %d: %v, %v", i, a, b)
		}
		// The vault is the cache's.
		if !same(r.k.Table(), r.k.Cache().Vault().Table()) || r.k.Generation() != r.k.Cache().Vault().Generation() {
			t.Errorf("step %d: another vault", i)
		}
	}
}

// One disk as both makes no sense, but no call panics.
func TestOneDiskAsBoth(t *testing.T) {
	for seed := range 40 {
		n := random(seed)
		d := made(t, api.MaxSectors)
		k, e := volume.Open(d, d, 4)
		if e != api.OK {
			t.Fatalf("Open: %d", e)
		}
		for range 60 {
			k.Tenant(api.Tenant{Id: 1 + n.Intn(3), Quota: 1 + n.Intn(3), Burst: 1, Key: keyOf(1)})
			k.Volume(n.Intn(8), 1+n.Intn(3), n.Intn(33))
			k.Cache().Write(n.Intn(8), n.Intn(32), []byte(text(n.Int())))
			k.Cache().Read(n.Intn(8), n.Intn(32))
			switch n.Intn(8) {
			case 0:
				k.Resize(n.Intn(8), n.Intn(33))
			case 1:
				k.Drop(n.Intn(8))
			case 2:
				k.Delete(1 + n.Intn(3))
			case 3:
				k.Quota(1+n.Intn(3), 1+n.Intn(3))
			case 4:
				k.Rebalance([]int{1 + n.Intn(3)}, api.Curve{0, 1})
			case 5:
				if again, e := volume.Open(d, d, 4); e == api.OK {
					k = again
				}
			}
		}
	}
}

// Keepers on disks of their own have nothing to do with each other.
func TestTwoKeepers(t *testing.T) {
	a := rigOf(t, 3, tenant(2, 3), newVolume(3, 2, 3))
	b := rigOf(t, 4, tenant(2, 2), newVolume(3, 2, 4))
	for i := range 9 {
		a.do(put(3, i%2, i), resize(3, 2+i%3))
		b.do(put(3, i*i%4, 100+i), setQuota(2, 1+i%3))
		a.right()
		b.right()
	}
	a.do(remove(2))
	a.right()
	b.right()
}

// R4: what is handed in is neither changed nor kept, spare room included.
func TestMemory(t *testing.T) {
	r := rigOf(t, 6, tenant(1, 3), tenant(4, 2), newVolume(2, 1, 8))
	for i := range 8 {
		r.do(put(2, i, i))
	}
	ids := []int{4, 1, -5, 7}
	curves := []api.Curve{{0, 9, 18, 27, 1, 1}, {0, 1, 2, 3, -1, -1}, {5}, {6}}
	curves[0], curves[1] = curves[0][:4], curves[1][:4]
	wasIds, wasCurves := slices.Clone(ids), [][]int{{0, 9, 18, 27, 1, 1}, {0, 1, 2, 3, -1, -1}, {5}, {6}}
	s := rebalance(ids[:2], curves[:2]...)
	r.do(s)
	for i, c := range curves {
		if !slices.Equal(c[:cap(c)], wasCurves[i]) {
			t.Errorf("curve %d is %v", i, c[:cap(c)])
		}
	}
	if !slices.Equal(ids, wasIds) {
		t.Errorf("tenants %v", ids)
	}
	clear(ids)
	clear(curves[0])
	r.right()
}

// P20.2: the power that went

// lost: each call answers ErrPower, whatever it is given.
func (r *rig) lost() {
	r.Helper()
	for i, e := range every(r.k) {
		if e != api.ErrPower {
			r.Fatalf("call %d: %d", i, e)
		}
	}
}

// A call of the keeper or of its cache that answered ErrPower is the last one.
func TestPowerThatIsGone(t *testing.T) {
	read := step{name: "read", call: func(k *volume.Keeper) api.Errno { _, e := k.Cache().Read(2, 0); return e }}
	for _, s := range []step{tenant(5, 1), setQuota(1, 2), setQuota(1, 4), remove(1), newVolume(5, 1, 1), resize(2, 3), resize(2, 9), drop(2), rebalance([]int{1}, api.Curve{0, 1}), put(2, 0, 9), sure(2), clean(1), read} {
		r := rigOf(t, 6, tenant(1, 3), tenant(4, 2), newVolume(2, 1, 8))
		r.do(put(2, 0, 1), put(2, 1, 2), put(2, 2, 3), sure(2))
		dark(t, r.fast)
		dark(t, r.slow)
		// No call answered ErrPower yet.
		for i, c := range []struct{ e, want api.Errno }{
			{r.k.Tenant(api.Tenant{}), api.ErrArg}, {r.k.Quota(7, 1), api.ErrNone}, {r.k.Delete(7), api.ErrNone}, {r.k.Volume(2, 1, 1), api.ErrTwice}, {r.k.Resize(1, 1), api.ErrNone}, {r.k.Drop(9), api.ErrArg}, {r.k.Rebalance([]int{1, 1}, nil, nil), api.ErrTwice},
		} {
			if c.e != c.want {
				t.Errorf("%d: %d, want %d", i, c.e, c.want)
			}
		}
		if e := s.call(r.k); e != api.ErrPower {
			t.Errorf("%s: %d", s.name, e)
		}
		r.lost()
		r.fast.Crash()
		r.slow.Crash()
		r.lost()
		if n, m := r.fast.Pending(), r.slow.Pending(); n+m > 0 {
			t.Errorf("%s: it wrote behind its power", s.name)
		}
		r.open()
		r.right()
	}
}

// Power that went and came back between two calls was not missed.
func TestPowerThatCameBack(t *testing.T) {
	r := rigOf(t, 6, tenant(1, 3))
	for i, s := range []step{newVolume(2, 1, 8), setQuota(1, 2), put(2, 0, 1), resize(2, 3), tenant(4, 2), rebalance([]int{4, 1}, api.Curve{0, 1}, api.Curve{0}), drop(2), remove(1)} {
		r.do(s)
		if s.name == "put" {
			r.do(sure(2))
		}
		dark(t, r.fast)
		if i%2 == 0 {
			dark(t, r.slow)
		}
		r.fast.Crash()
		r.slow.Crash()
		r.right()
	}
}
