package table_test

import (
	"math"
	"math/rand"
	"reflect"
	"slices"
	"strings"
	"testing"

	"stowage/api"
	"stowage/table"
)

const someKey = "0123456789abcdef"

// random: the same in each run with one seed.
func random(seed int) *rand.Rand { return rand.New(rand.NewSource(int64(seed))) }

// fresh: a table without anything.
func fresh(t *testing.T, slots int) api.Table {
	t.Helper()
	at, e := table.New(slots)
	if e != api.OK {
		t.Fatalf("New(%d): %d", slots, e)
	}
	return at
}

// made: a table behind changes, none of which may fail.
func made(t *testing.T, at api.Table, list ...api.Rec) api.Table {
	t.Helper()
	for i, r := range list {
		next, e := table.Apply(at, r)
		if e != api.OK {
			t.Fatalf("change %d, %+v: %d", i, r, e)
		}
		at = next
	}
	return at
}

// The changes.

func tenant(id, quota int) api.Rec {
	return api.Rec{Kind: 1, A: id, B: quota, C: 65536 * id, D: 2, Key: someKey}
}
func quota(id, quota int) api.Rec           { return api.Rec{Kind: 2, A: id, B: quota} }
func dying(id int) api.Rec                  { return api.Rec{Kind: 3, A: id} }
func gone(id int) api.Rec                   { return api.Rec{Kind: 4, A: id} }
func volume(id, tenant, blocks int) api.Rec { return api.Rec{Kind: 5, A: id, B: tenant, C: blocks} }
func size(id, blocks int) api.Rec           { return api.Rec{Kind: 6, A: id, B: blocks} }
func drop(id int) api.Rec                   { return api.Rec{Kind: 7, A: id} }
func base(id, base int) api.Rec             { return api.Rec{Kind: 8, A: id, B: base} }
func own(slot, tenant int) api.Rec          { return api.Rec{Kind: 9, A: slot, B: tenant} }

// full: a table with everything: tenants 2, 5 (Dying) and 7, volumes 1, 3 and 6, and of 8 slots four that are owned.
func full() api.Table {
	return api.Table{
		Tenants: []api.Tenant{
			{Id: 2, Quota: 3, Rate: 131072, Burst: 2, Key: someKey},
			{Id: 5, Quota: 1, Rate: 0, Burst: 64, Key: "fedcba9876543210", Dying: true},
			{Id: 7, Quota: 3, Rate: 1 << 32, Burst: 1, Key: strings.Repeat("\x00", 16)},
		},
		Volumes: []api.Volume{{Id: 1, Tenant: 7, Blocks: 32, Base: 1 << 40}, {Id: 3, Tenant: 5, Blocks: 0}, {Id: 6, Tenant: 2, Blocks: 9, Base: 4}},
		Owners:  []int{0, 2, 7, 0, 2, 5, 0, 0},
	}
}

// same: do two tables hold the same? Nil and empty lists are.
func same(a, b api.Table) bool {
	return slices.Equal(a.Tenants, b.Tenants) && slices.Equal(a.Volumes, b.Volumes) && slices.Equal(a.Owners, b.Owners)
}

// The document's words, over again: a table by its Ids.

type model struct {
	tenants map[int]api.Tenant
	volumes map[int]api.Volume
	owners  []int
}

func newModel(slots int) *model {
	return &model{map[int]api.Tenant{}, map[int]api.Volume{}, make([]int, slots)}
}

// modelOf: of a sound table.
func modelOf(at api.Table) *model {
	m := newModel(len(at.Owners))
	for _, x := range at.Tenants {
		m.tenants[x.Id] = x
	}
	for _, v := range at.Volumes {
		m.volumes[v.Id] = v
	}
	copy(m.owners, at.Owners)
	return m
}

// table: what the model holds, as a table.
func (m *model) table() api.Table {
	at := api.Table{Owners: slices.Clone(m.owners)}
	for id := range 100 {
		if x, ok := m.tenants[id]; ok {
			at.Tenants = append(at.Tenants, x)
		}
		if v, ok := m.volumes[id]; ok {
			at.Volumes = append(at.Volumes, v)
		}
	}
	return at
}

func (m *model) owned(tenant int) (n int) {
	for _, o := range m.owners {
		if o == tenant {
			n++
		}
	}
	return n
}

// crowded: would all Quotas be more than the Owners, if the tenant's were this one?
func (m *model) crowded(id, quota int) bool {
	for _, x := range m.tenants {
		if x.Id != id {
			quota += x.Quota
		}
	}
	return quota > len(m.owners)
}

// shaped: is a change formed?
func shaped(r api.Rec) bool {
	in := func(n, least, most int) bool { return least <= n && n <= most }
	none := func(list ...int) bool {
		for _, n := range list {
			if n != 0 {
				return false
			}
		}
		return r.Key == ""
	}
	switch r.Kind {
	case 0:
		return none(r.A, r.B, r.C, r.D)
	case 1:
		return in(r.A, 1, 7) && in(r.B, 1, 64) && in(r.C, 0, 4294967296) && in(r.D, 1, 64) && len(r.Key) == 16
	case 2:
		return in(r.A, 1, 7) && in(r.B, 1, 64) && none(r.C, r.D)
	case 3, 4:
		return in(r.A, 1, 7) && none(r.B, r.C, r.D)
	case 5:
		return in(r.A, 0, 7) && in(r.B, 1, 7) && in(r.C, 0, 32) && none(r.D)
	case 6:
		return in(r.A, 0, 7) && in(r.B, 0, 32) && none(r.C, r.D)
	case 7:
		return in(r.A, 0, 7) && none(r.B, r.C, r.D)
	case 8:
		return in(r.A, 0, 7) && in(r.B, 0, 1099511627776) && none(r.C, r.D)
	case 9:
		return in(r.A, 0, 63) && in(r.B, 0, 7) && none(r.C, r.D)
	}
	return false
}

// refusal is a condition and the error that is answered if it holds.
type refusal struct {
	holds bool
	e     api.Errno
}

// first: the error of the first condition that holds.
func first(list ...refusal) api.Errno {
	for _, c := range list {
		if c.holds {
			return c.e
		}
	}
	return api.OK
}

// refused: what a change that is formed is answered.
func (m *model) refused(r api.Rec) api.Errno {
	x, has := m.tenants[r.A]
	of, hasOf := m.tenants[r.B]
	v, hasVolume := m.volumes[r.A]
	busy := !x.Dying || m.owned(r.A) > 0
	for _, w := range m.volumes {
		busy = busy || w.Tenant == r.A
	}
	switch r.Kind {
	case 1:
		return first(refusal{has, api.ErrTwice}, refusal{m.crowded(r.A, r.B), api.ErrSpace})
	case 2:
		return first(refusal{!has, api.ErrNone}, refusal{x.Dying || m.owned(r.A) > r.B, api.ErrBusy}, refusal{m.crowded(r.A, r.B), api.ErrSpace})
	case 3:
		return first(refusal{!has, api.ErrNone}, refusal{x.Dying, api.ErrTwice})
	case 4:
		return first(refusal{!has, api.ErrNone}, refusal{busy, api.ErrBusy})
	case 5:
		return first(refusal{hasVolume, api.ErrTwice}, refusal{!hasOf, api.ErrNone}, refusal{of.Dying, api.ErrBusy})
	case 6, 7:
		return first(refusal{!hasVolume, api.ErrNone})
	case 8:
		return first(refusal{!hasVolume, api.ErrNone}, refusal{r.B < v.Base, api.ErrRange})
	case 9:
		if r.A >= len(m.owners) {
			return api.ErrRange
		}
		if r.B == 0 {
			return first(refusal{m.owners[r.A] == 0, api.ErrNone})
		}
		return first(refusal{!hasOf, api.ErrNone}, refusal{of.Dying, api.ErrBusy}, refusal{m.owners[r.A] != 0, api.ErrTwice}, refusal{m.owned(r.B) >= of.Quota, api.ErrSpace})
	}
	return api.OK
}

// change: one, as the document says it.
func (m *model) change(r api.Rec) api.Errno {
	if !shaped(r) {
		return api.ErrArg
	}
	if e := m.refused(r); e != api.OK {
		return e
	}
	x, v := m.tenants[r.A], m.volumes[r.A]
	switch r.Kind {
	case 1:
		m.tenants[r.A] = api.Tenant{Id: r.A, Quota: r.B, Rate: r.C, Burst: r.D, Key: r.Key}
	case 2:
		x.Quota = r.B
		m.tenants[r.A] = x
	case 3:
		x.Dying = true
		m.tenants[r.A] = x
	case 4:
		delete(m.tenants, r.A)
	case 5:
		m.volumes[r.A] = api.Volume{Id: r.A, Tenant: r.B, Blocks: r.C}
	case 6:
		v.Blocks = r.B
		m.volumes[r.A] = v
	case 7:
		delete(m.volumes, r.A)
	case 8:
		v.Base = r.B
		m.volumes[r.A] = v
	case 9:
		m.owners[r.A] = r.B
	}
	return api.OK
}

// image: the changes that make it.
func (m *model) image() (list []api.Rec) {
	at := m.table()
	for _, x := range at.Tenants {
		list = append(list, api.Rec{Kind: 1, A: x.Id, B: x.Quota, C: x.Rate, D: x.Burst, Key: x.Key})
	}
	for _, v := range at.Volumes {
		list = append(list, volume(v.Id, v.Tenant, v.Blocks))
		if v.Base != 0 {
			list = append(list, base(v.Id, v.Base))
		}
	}
	for i, o := range at.Owners {
		if o != 0 {
			list = append(list, own(i, o))
		}
	}
	for _, x := range at.Tenants {
		if x.Dying {
			list = append(list, dying(x.Id))
		}
	}
	return list
}

// P16.1

func TestNew(t *testing.T) {
	for _, slots := range []int{1, 2, 63, 64} {
		at := fresh(t, slots)
		if len(at.Tenants) != 0 || len(at.Volumes) != 0 || !slices.Equal(at.Owners, make([]int, slots)) || table.Check(at) != api.OK {
			t.Errorf("New(%d): %+v", slots, at)
		}
	}
	for _, slots := range []int{math.MinInt, -1, 0, 65, 1 << 40, math.MaxInt} {
		if at, e := table.New(slots); e != api.ErrArg || !reflect.DeepEqual(at, api.Table{}) {
			t.Errorf("New(%d): %+v, %d", slots, at, e)
		}
	}
}

func TestSoundTables(t *testing.T) {
	for name, change := range map[string]func(at *api.Table){
		"as it is":                 func(at *api.Table) {},
		"first Id":                 func(at *api.Table) { at.Tenants[0].Id, at.Volumes[2].Tenant, at.Owners[1], at.Owners[4] = 1, 1, 1, 1 },
		"no Rate":                  func(at *api.Table) { at.Tenants[0].Rate = 0 },
		"greatest Rate":            func(at *api.Table) { at.Tenants[0].Rate = 4294967296 },
		"least Burst":              func(at *api.Table) { at.Tenants[0].Burst = 1 },
		"greatest Burst":           func(at *api.Table) { at.Tenants[0].Burst = 64 },
		"any bytes as Key":         func(at *api.Table) { at.Tenants[0].Key = "\xff\xfe\x00\n0123456789ab" },
		"two of one Key":           func(at *api.Table) { at.Tenants[0].Key = at.Tenants[1].Key },
		"all Dying":                func(at *api.Table) { at.Tenants[0].Dying, at.Tenants[2].Dying = true, true },
		"none Dying":               func(at *api.Table) { at.Tenants[1].Dying = false },
		"as many Quotas as Owners": func(at *api.Table) { at.Tenants[1].Quota = 2 },
		"as much as the Quota":     func(at *api.Table) { at.Owners[0] = 2 },
		"least volume's Id":        func(at *api.Table) { at.Volumes[0].Id = 0 },
		"greatest volume's Id":     func(at *api.Table) { at.Volumes[2].Id = 7 },
		"all volumes of one":       func(at *api.Table) { at.Volumes[0].Tenant, at.Volumes[1].Tenant = 2, 2 },
		"no blocks":                func(at *api.Table) { at.Volumes[2].Blocks = 0 },
		"most blocks":              func(at *api.Table) { at.Volumes[2].Blocks = 32 },
		"Base 0":                   func(at *api.Table) { at.Volumes[2].Base = 0 },
		"greatest Base":            func(at *api.Table) { at.Volumes[2].Base = 1099511627776 },
		"no volumes":               func(at *api.Table) { at.Volumes = nil },
		"empty lists": func(at *api.Table) {
			at.Tenants, at.Volumes, at.Owners = []api.Tenant{}, []api.Volume{}, make([]int, 8)
		},
		"one slot": func(at *api.Table) { *at = api.Table{Owners: []int{0}} },
		"one owned slot": func(at *api.Table) {
			*at = api.Table{Tenants: []api.Tenant{{Id: 1, Quota: 1, Burst: 1, Key: someKey}}, Owners: []int{1}}
		},
		"most slots": func(at *api.Table) { at.Owners = append(at.Owners, make([]int, 56)...) },
		"greatest Quota": func(at *api.Table) {
			*at = api.Table{Tenants: []api.Tenant{{Id: 7, Quota: 64, Burst: 1, Key: someKey}}, Owners: make([]int, 64)}
		},
		"all tenants": func(at *api.Table) {
			at.Tenants, at.Volumes = nil, nil
			for id := range 7 {
				at.Tenants = append(at.Tenants, api.Tenant{Id: id + 1, Quota: 1, Burst: 1, Key: someKey})
				at.Volumes = append(at.Volumes, api.Volume{Id: id, Tenant: id + 1})
			}
			at.Volumes = append(at.Volumes, api.Volume{Id: 7, Tenant: 7})
			at.Owners = []int{7, 6, 5, 4, 3, 2, 1, 0}
		},
	} {
		at := full()
		change(&at)
		if e := table.Check(at); e != api.OK {
			t.Errorf("%s: %d", name, e)
		}
		if got, e := table.Apply(at); e != api.OK || !same(got, at) {
			t.Errorf("%s: Apply of nothing: %+v, %d", name, got, e)
		}
		checkImage(t, name, at)
	}
}

// unsound: what makes table full not sound.
func unsound() map[string]func(at *api.Table) {
	return map[string]func(at *api.Table){
		"nothing":                     func(at *api.Table) { *at = api.Table{} },
		"no Owners":                   func(at *api.Table) { at.Tenants, at.Volumes, at.Owners = nil, nil, []int{} },
		"too many Owners":             func(at *api.Table) { at.Owners = append(at.Owners, make([]int, 57)...) },
		"tenant 0":                    func(at *api.Table) { at.Tenants[0].Id = 0 },
		"tenant -1":                   func(at *api.Table) { at.Tenants[0].Id = -1 },
		"least tenant":                func(at *api.Table) { at.Tenants[0].Id = math.MinInt },
		"tenant 8":                    func(at *api.Table) { at.Tenants = append(at.Tenants, at.Tenants[1]); at.Tenants[3].Id = 8 },
		"tenants that fall":           func(at *api.Table) { at.Tenants[0], at.Tenants[1] = at.Tenants[1], at.Tenants[0] },
		"tenants that fall at last":   func(at *api.Table) { at.Tenants[1], at.Tenants[2] = at.Tenants[2], at.Tenants[1] },
		"a tenant twice":              func(at *api.Table) { at.Tenants = slices.Insert(at.Tenants, 1, at.Tenants[1]) },
		"Quota 0":                     func(at *api.Table) { at.Tenants[1].Quota, at.Owners[5] = 0, 0 },
		"Quota below 0":               func(at *api.Table) { at.Tenants[1].Quota, at.Owners[5] = -1, 0 },
		"Quota 65":                    func(at *api.Table) { at.Tenants[1].Quota = 65 },
		"Quotas that wrap round":      func(at *api.Table) { at.Tenants[0].Quota, at.Tenants[1].Quota = math.MaxInt, math.MaxInt },
		"too much of Quotas":          func(at *api.Table) { at.Tenants[1].Quota = 3 },
		"Quotas 9 of 8 slots":         func(at *api.Table) { at.Tenants[2].Quota = 5 },
		"Rate below 0":                func(at *api.Table) { at.Tenants[2].Rate = -1 },
		"Rate too great":              func(at *api.Table) { at.Tenants[2].Rate = 4294967297 },
		"Burst 0":                     func(at *api.Table) { at.Tenants[2].Burst = 0 },
		"Burst 65":                    func(at *api.Table) { at.Tenants[2].Burst = 65 },
		"Key of 15 bytes":             func(at *api.Table) { at.Tenants[2].Key = someKey[1:] },
		"Key of 17 bytes":             func(at *api.Table) { at.Tenants[2].Key = someKey + "x" },
		"no Key":                      func(at *api.Table) { at.Tenants[2].Key = "" },
		"volume -1":                   func(at *api.Table) { at.Volumes[0].Id = -1 },
		"volume 8":                    func(at *api.Table) { at.Volumes[2].Id = 8 },
		"volumes that fall":           func(at *api.Table) { at.Volumes[0], at.Volumes[1] = at.Volumes[1], at.Volumes[0] },
		"volumes that fall at last":   func(at *api.Table) { at.Volumes[1], at.Volumes[2] = at.Volumes[2], at.Volumes[1] },
		"a volume twice":              func(at *api.Table) { at.Volumes[1].Id = 1 },
		"volume of none":              func(at *api.Table) { at.Volumes[2].Tenant = 0 },
		"volume of who is not there":  func(at *api.Table) { at.Volumes[2].Tenant = 3 },
		"volume of 8":                 func(at *api.Table) { at.Volumes[2].Tenant = 8 },
		"blocks below 0":              func(at *api.Table) { at.Volumes[2].Blocks = -1 },
		"33 blocks":                   func(at *api.Table) { at.Volumes[2].Blocks = 33 },
		"Base below 0":                func(at *api.Table) { at.Volumes[2].Base = -1 },
		"Base too great":              func(at *api.Table) { at.Volumes[2].Base = 1099511627777 },
		"volumes without tenants":     func(at *api.Table) { at.Tenants, at.Owners = nil, make([]int, 8) },
		"an Owner who is not there":   func(at *api.Table) { at.Owners[0] = 1 },
		"the last Owner is not there": func(at *api.Table) { at.Owners[7] = 6 },
		"Owner -1":                    func(at *api.Table) { at.Owners[0] = -1 },
		"Owner 8":                     func(at *api.Table) { at.Owners[0] = 8 },
		"least Owner":                 func(at *api.Table) { at.Owners[0] = math.MinInt },
		"more than the Quota":         func(at *api.Table) { at.Owners[6] = 5 },
		"far more than the Quota":     func(at *api.Table) { at.Owners = []int{7, 7, 7, 7, 7, 7, 7, 7} },
	}
}

func TestUnsoundTables(t *testing.T) {
	for name, change := range unsound() {
		at := full()
		change(&at)
		if e := table.Check(at); e != api.ErrForm {
			t.Errorf("%s: Check: %d", name, e)
		}
		for _, list := range [][]api.Rec{nil, {{}}, {{Kind: 10}}, {dying(6)}} {
			if got, e := table.Apply(at, list...); e != api.ErrForm || !reflect.DeepEqual(got, api.Table{}) {
				t.Errorf("%s: Apply(%+v): %+v, %d", name, list, got, e)
			}
		}
		if list, e := table.Image(at); e != api.ErrForm || list != nil {
			t.Errorf("%s: Image: %+v, %d", name, list, e)
		}
	}
}

// A table is sound, if what its things say makes it of an empty one.
func TestSoundIfItCanBeMade(t *testing.T) {
	sound := 0
	for seed := range 20000 {
		r := random(seed)
		at := full()
		for range r.Intn(4) {
			damage(r, &at)
		}
		m := newModel(len(at.Owners))
		e := api.OK
		for _, c := range (&model{owners: at.Owners}).imageOf(at) {
			if e == api.OK {
				e = m.change(c)
			}
		}
		can := len(at.Owners) >= 1 && len(at.Owners) <= 64 && e == api.OK && same(m.table(), at)
		if got := table.Check(at); (got == api.OK) != can || got != api.OK && got != api.ErrForm {
			t.Fatalf("seed %d: %+v: %d, can be made %v", seed, at, got, can)
		}
		if can {
			sound++
		}
	}
	if sound < 2000 || sound > 18000 {
		t.Errorf("%d sound", sound)
	}
}

// imageOf: what the things of any table say, sound or not.
func (m *model) imageOf(at api.Table) (list []api.Rec) {
	for _, x := range at.Tenants {
		list = append(list, api.Rec{Kind: 1, A: x.Id, B: x.Quota, C: x.Rate, D: x.Burst, Key: x.Key})
	}
	for _, v := range at.Volumes {
		list = append(list, volume(v.Id, v.Tenant, v.Blocks), base(v.Id, v.Base))
	}
	for i, o := range at.Owners {
		if o != 0 {
			list = append(list, own(i, o))
		}
	}
	for _, x := range at.Tenants {
		if x.Dying {
			list = append(list, dying(x.Id))
		}
	}
	return list
}

// damage: some number of a table becomes another one.
func damage(r *rand.Rand, at *api.Table) {
	near := func(list ...int) int { return list[r.Intn(len(list))] + r.Intn(3) - 1 }
	switch r.Intn(10) {
	case 0:
		at.Tenants[r.Intn(len(at.Tenants))].Id = r.Intn(10) - 1
	case 1:
		at.Tenants[r.Intn(len(at.Tenants))].Quota = near(1, 2, 3, 64)
	case 2:
		at.Tenants[r.Intn(len(at.Tenants))].Rate = near(0, 65536, 1<<32)
	case 3:
		at.Tenants[r.Intn(len(at.Tenants))].Burst = near(1, 64)
	case 4:
		at.Tenants[r.Intn(len(at.Tenants))].Dying = r.Intn(2) == 1
	case 5:
		at.Volumes[r.Intn(len(at.Volumes))].Id = r.Intn(10) - 1
	case 6:
		at.Volumes[r.Intn(len(at.Volumes))].Tenant = r.Intn(10) - 1
	case 7:
		at.Volumes[r.Intn(len(at.Volumes))].Blocks = near(0, 32)
	case 8:
		at.Volumes[r.Intn(len(at.Volumes))].Base = near(0, 1<<40)
	case 9:
		at.Owners[r.Intn(len(at.Owners))] = []int{0, 0, 2, 7, 5, 3, -1, 8}[r.Intn(8)]
	}
}

func TestOwned(t *testing.T) {
	at := full()
	for id, want := range []int{0, 0, 2, 0, 0, 1, 0, 1, 0} {
		if n := table.Owned(at, id); n != want {
			t.Errorf("tenant %d: %d, want %d", id, n, want)
		}
	}
	// It counts in any table.
	odd := api.Table{Owners: []int{1, -1, 8, 1, 0, 7, math.MinInt, math.MaxInt, 1}}
	for id, want := range map[int]int{1: 3, 7: 1, 2: 0, 0: 0, -1: 0, 8: 0, math.MinInt: 0, math.MaxInt: 0} {
		if n := table.Owned(odd, id); n != want {
			t.Errorf("tenant %d: %d, want %d", id, n, want)
		}
		if n := table.Owned(api.Table{}, id); n != 0 {
			t.Errorf("tenant %d of nothing: %d", id, n)
		}
	}
}

// P16.2

// step is a change, and what it is answered.
type step struct {
	r api.Rec
	e api.Errno
}

// walk: changes one behind the other; those that are refused change nothing.
func walk(t *testing.T, at api.Table, list ...step) api.Table {
	t.Helper()
	for i, s := range list {
		got, e := table.Apply(at, s.r)
		if e != s.e {
			t.Fatalf("change %d, %+v: %d, want %d", i, s.r, e, s.e)
		}
		if e == api.OK {
			at = got
		} else if !reflect.DeepEqual(got, api.Table{}) {
			t.Fatalf("change %d, %+v: %+v beside error %d", i, s.r, got, e)
		}
	}
	return at
}

func TestNoChange(t *testing.T) {
	for _, list := range [][]api.Rec{nil, {}, {{}}, {{}, {}, {}}} {
		if got, e := table.Apply(full(), list...); e != api.OK || !same(got, full()) {
			t.Errorf("%+v: %+v, %d", list, got, e)
		}
	}
}

func TestTenants(t *testing.T) {
	at := walk(t, fresh(t, 6),
		step{tenant(3, 4), api.OK},
		step{tenant(3, 1), api.ErrTwice},
		step{tenant(3, 64), api.ErrTwice}, // ahead of ErrSpace
		step{tenant(1, 3), api.ErrSpace},
		step{tenant(7, 1), api.OK},
		step{tenant(1, 1), api.OK},
		step{tenant(2, 1), api.ErrSpace},
		step{tenant(2, 64), api.ErrSpace},
	)
	want := []api.Tenant{
		{Id: 1, Quota: 1, Rate: 65536, Burst: 2, Key: someKey},
		{Id: 3, Quota: 4, Rate: 3 * 65536, Burst: 2, Key: someKey},
		{Id: 7, Quota: 1, Rate: 7 * 65536, Burst: 2, Key: someKey},
	}
	if !same(at, api.Table{Tenants: want, Owners: make([]int, 6)}) {
		t.Errorf("%+v", at)
	}
}

func TestQuotas(t *testing.T) {
	at := made(t, fresh(t, 6), tenant(1, 2), tenant(3, 4), own(5, 1), own(0, 1), own(2, 3))
	at = walk(t, at,
		step{quota(2, 1), api.ErrNone},
		step{quota(2, 64), api.ErrNone},
		step{quota(1, 1), api.ErrBusy},
		step{quota(1, 3), api.ErrSpace},
		step{quota(1, 2), api.OK},
		step{quota(3, 5), api.ErrSpace},
		step{quota(3, 1), api.OK},
		step{quota(1, 5), api.OK},
		step{quota(1, 6), api.ErrSpace},
		step{quota(3, 2), api.ErrSpace},
		step{quota(1, 2), api.OK},
		step{dying(1), api.OK},
		step{quota(1, 2), api.ErrBusy},
		step{quota(1, 64), api.ErrBusy}, // ahead of ErrSpace
		step{quota(3, 64), api.ErrSpace},
		step{quota(3, 4), api.OK},
	)
	if len(at.Tenants) != 2 || at.Tenants[0].Quota != 2 || at.Tenants[1].Quota != 4 || at.Tenants[1].Rate != 3*65536 {
		t.Errorf("%+v", at.Tenants)
	}
	// Who owns nothing may have any Quota.
	walk(t, made(t, fresh(t, 64), tenant(1, 64)), step{quota(1, 1), api.OK}, step{quota(1, 64), api.OK})
}

func TestDyingAndGone(t *testing.T) {
	at := made(t, fresh(t, 6), tenant(1, 2), tenant(2, 1), tenant(3, 3), own(5, 2), volume(4, 2, 9), volume(5, 3, 1))
	at = walk(t, at,
		step{dying(7), api.ErrNone},
		step{gone(7), api.ErrNone},
		step{gone(1), api.ErrBusy}, // not Dying, though it has nothing
		step{dying(1), api.OK},
		step{dying(1), api.ErrTwice},
		step{gone(1), api.OK},
		step{gone(1), api.ErrNone},
		step{dying(1), api.ErrNone},
		step{dying(2), api.OK},
		step{gone(2), api.ErrBusy},
		step{own(5, 0), api.OK},
		step{gone(2), api.ErrBusy}, // its volume
		step{own(5, 3), api.OK},
		step{drop(4), api.OK},
		step{gone(2), api.OK},
		step{gone(3), api.ErrBusy},
		step{dying(3), api.OK},
		step{drop(5), api.OK},
		step{gone(3), api.ErrBusy}, // its slot
		step{tenant(2, 3), api.OK},
		step{tenant(1, 1), api.ErrSpace}, // who is Dying has a Quota yet
	)
	want := api.Table{
		Tenants: []api.Tenant{
			{Id: 2, Quota: 3, Rate: 131072, Burst: 2, Key: someKey},
			{Id: 3, Quota: 3, Rate: 3 * 65536, Burst: 2, Key: someKey, Dying: true},
		},
		Owners: []int{0, 0, 0, 0, 0, 3},
	}
	if !same(at, want) {
		t.Errorf("%+v", at)
	}
	at = walk(t, at, step{own(5, 0), api.OK}, step{gone(3), api.OK}, step{tenant(3, 1), api.OK})
	if at.Tenants[1].Dying {
		t.Error("a tenant that is made anew is Dying")
	}
}

func TestVolumes(t *testing.T) {
	at := made(t, fresh(t, 6), tenant(1, 2), tenant(3, 1), tenant(5, 1), dying(5))
	at = walk(t, at,
		step{volume(4, 3, 9), api.OK},
		step{volume(4, 1, 9), api.ErrTwice},
		step{volume(4, 2, 9), api.ErrTwice}, // ahead of ErrNone
		step{volume(4, 5, 9), api.ErrTwice}, // ahead of ErrBusy
		step{volume(0, 2, 9), api.ErrNone},
		step{volume(0, 5, 9), api.ErrBusy},
		step{volume(7, 1, 0), api.OK},
		step{volume(0, 1, 32), api.OK},
		step{size(1, 3), api.ErrNone},
		step{base(1, 3), api.ErrNone},
		step{drop(1), api.ErrNone},
		step{size(0, 0), api.OK},
		step{size(7, 32), api.OK},
		step{base(7, 0), api.OK},
		step{base(7, 30), api.OK},
		step{base(7, 30), api.OK},
		step{base(7, 29), api.ErrRange},
		step{base(7, 0), api.ErrRange},
		step{base(4, 1<<40), api.OK},
		step{size(4, 9), api.OK},
	)
	want := []api.Volume{{Id: 0, Tenant: 1, Blocks: 0}, {Id: 4, Tenant: 3, Blocks: 9, Base: 1 << 40}, {Id: 7, Tenant: 1, Blocks: 32, Base: 30}}
	if !slices.Equal(at.Volumes, want) {
		t.Errorf("%+v", at.Volumes)
	}
	// Who is Dying keeps its volumes till they are dropped; one that is made anew has Base 0.
	at = walk(t, at,
		step{dying(1), api.OK},
		step{size(7, 2), api.OK},
		step{base(7, 31), api.OK},
		step{drop(7), api.OK},
		step{drop(7), api.ErrNone},
		step{size(7, 2), api.ErrNone},
		step{volume(7, 3, 5), api.OK},
		step{base(7, 1), api.OK},
		step{drop(0), api.OK},
	)
	want = []api.Volume{{Id: 4, Tenant: 3, Blocks: 9, Base: 1 << 40}, {Id: 7, Tenant: 3, Blocks: 5, Base: 1}}
	if !slices.Equal(at.Volumes, want) {
		t.Errorf("%+v", at.Volumes)
	}
}

func TestOwners(t *testing.T) {
	at := made(t, fresh(t, 6), tenant(1, 2), tenant(3, 1), tenant(5, 3), own(5, 5), dying(5))
	at = walk(t, at,
		step{own(6, 3), api.ErrRange},
		step{own(6, 2), api.ErrRange}, // ahead of ErrNone
		step{own(6, 0), api.ErrRange},
		step{own(63, 0), api.ErrRange},
		step{own(0, 0), api.ErrNone},
		step{own(0, 2), api.ErrNone},
		step{own(5, 2), api.ErrNone}, // ahead of ErrTwice
		step{own(0, 5), api.ErrBusy},
		step{own(5, 5), api.ErrBusy}, // ahead of ErrTwice
		step{own(5, 1), api.ErrTwice},
		step{own(0, 1), api.OK},
		step{own(0, 1), api.ErrTwice},
		step{own(3, 1), api.OK},
		step{own(5, 1), api.ErrTwice}, // ahead of ErrSpace
		step{own(4, 1), api.ErrSpace},
		step{own(5, 0), api.OK}, // of who is Dying
		step{own(5, 0), api.ErrNone},
		step{own(0, 3), api.ErrTwice},
		step{own(0, 0), api.OK},
		step{own(0, 3), api.OK},
		step{own(1, 3), api.ErrSpace},
		step{own(4, 1), api.OK},
	)
	if !slices.Equal(at.Owners, []int{3, 0, 0, 1, 1, 0}) || table.Owned(at, 1) != 2 || table.Owned(at, 3) != 1 || table.Owned(at, 5) != 0 {
		t.Errorf("%v", at.Owners)
	}
}

// Each change at its ends, and a bit beyond: of a table in which everything could be done, ErrArg tells those that are not formed.
func TestFormed(t *testing.T) {
	numbers := []int{math.MinInt, -1, 0, 1, 2, 7, 8, 9, 32, 33, 63, 64, 65, 1 << 32, 1<<32 + 1, 1 << 40, 1<<40 + 1, math.MaxInt}
	keys := []string{"", someKey, someKey[1:], someKey + "x", "k", strings.Repeat("k", 32)}
	basic := []api.Rec{{}, tenant(1, 1), quota(1, 1), dying(1), gone(1), volume(1, 1, 1), size(1, 1), drop(1), base(1, 1), own(1, 1)}
	for kind, sample := range basic {
		if kind != sample.Kind {
			t.Fatalf("kind %d at place %d", sample.Kind, kind)
		}
		checkFormed(t, sample)
		for _, n := range numbers {
			for place := range 5 {
				r := sample
				*[]*int{&r.Kind, &r.A, &r.B, &r.C, &r.D}[place] = n
				checkFormed(t, r)
			}
		}
		for _, k := range keys {
			r := sample
			r.Key = k
			checkFormed(t, r)
		}
	}
	// What no kind allows is ErrArg, whatever it is.
	for _, kind := range []int{math.MinInt, -1, 10, 11, 256, math.MaxInt} {
		for _, sample := range basic {
			sample.Kind = kind
			if _, e := table.Apply(full(), sample); e != api.ErrArg {
				t.Errorf("%+v: %d", sample, e)
			}
		}
	}
}

func checkFormed(t *testing.T, r api.Rec) {
	t.Helper()
	for _, at := range []api.Table{full(), fresh(t, 1), fresh(t, 64)} {
		got, e := table.Apply(at, r)
		m := modelOf(at)
		want := m.change(r)
		if e != want || (e == api.ErrArg) != !shaped(r) || e == api.OK && !same(got, m.table()) {
			t.Errorf("%+v: %d, want %d", r, e, want)
		}
	}
}

// Each change is looked at when it has its turn.
func TestTheFirstErrorOfAList(t *testing.T) {
	at := full()
	for _, c := range []struct {
		list []api.Rec
		e    api.Errno
	}{
		{[]api.Rec{{Kind: 10}, dying(6)}, api.ErrArg},
		{[]api.Rec{dying(6), {Kind: 10}}, api.ErrNone},
		{[]api.Rec{{}, dying(5), dying(6)}, api.ErrTwice},
		{[]api.Rec{dying(2), dying(2)}, api.ErrTwice},
		{[]api.Rec{own(0, 2), own(3, 2)}, api.ErrSpace},
		{[]api.Rec{own(0, 2), own(1, 0), own(3, 2)}, api.OK},
		{[]api.Rec{drop(3), own(5, 0), gone(5), tenant(5, 2), own(5, 5), volume(3, 5, 4)}, api.OK},
		{[]api.Rec{drop(3), own(5, 0), gone(5), tenant(5, 2), {A: 1}}, api.ErrArg},
	} {
		m, want := modelOf(at), api.OK
		for _, r := range c.list {
			if want == api.OK {
				want = m.change(r)
			}
		}
		got, e := table.Apply(at, c.list...)
		if e != c.e || e != want {
			t.Errorf("%+v: %d, want %d", c.list, e, c.e)
		}
		if e == api.OK && !same(got, m.table()) || e != api.OK && !reflect.DeepEqual(got, api.Table{}) {
			t.Errorf("%+v: %+v", c.list, got)
		}
		if !same(at, full()) {
			t.Fatalf("%+v changed the table that was handed in", c.list)
		}
	}
}

// someRec: any change, mostly one that is formed.
func someRec(r *rand.Rand) api.Rec {
	c := api.Rec{Kind: r.Intn(10), A: r.Intn(8)}
	switch c.Kind {
	case 0:
		c.A = 0
	case 1:
		c = tenant(1+r.Intn(7), 1+r.Intn(4))
	case 2:
		c.A, c.B = 1+r.Intn(7), 1+r.Intn(6)
	case 3, 4:
		c.A = 1 + r.Intn(7)
	case 5:
		c.B, c.C = 1+r.Intn(7), r.Intn(33)
	case 6:
		c.B = r.Intn(33)
	case 8:
		c.B = r.Intn(50)
	case 9:
		c.A, c.B = r.Intn(14), r.Intn(8)
	}
	if r.Intn(40) == 0 {
		*[]*int{&c.Kind, &c.A, &c.B, &c.C, &c.D}[r.Intn(5)] = []int{-1, 0, 8, 65, math.MaxInt, math.MinInt}[r.Intn(6)]
	}
	if r.Intn(100) == 0 {
		c.Key += "k"
	}
	return c
}

// Long ways of changes: each agrees with the document's words, and leads from a sound table to a sound one.
func TestWays(t *testing.T) {
	met := map[[2]int]int{}
	for seed := range 60 {
		r := random(seed)
		slots := 1 + r.Intn(14)
		at, m := fresh(t, slots), newModel(slots)
		for i := range 1500 {
			c := someRec(r)
			got, e := table.Apply(at, c)
			if want := m.change(c); e != want {
				t.Fatalf("seed %d, change %d, %+v of %+v: %d, want %d", seed, i, c, at, e, want)
			}
			met[[2]int{c.Kind, int(e)}]++
			if e != api.OK {
				continue
			}
			at = got
			if !same(at, m.table()) || table.Check(at) != api.OK {
				t.Fatalf("seed %d, change %d, %+v: %+v, want %+v", seed, i, c, at, m.table())
			}
			if i%10 == 0 {
				checkImage(t, "on the way", at)
			}
		}
	}
	for _, p := range []struct {
		kind int
		list []api.Errno
	}{
		{1, []api.Errno{api.OK, api.ErrArg, api.ErrTwice, api.ErrSpace}},
		{2, []api.Errno{api.OK, api.ErrArg, api.ErrNone, api.ErrBusy, api.ErrSpace}},
		{3, []api.Errno{api.OK, api.ErrArg, api.ErrNone, api.ErrTwice}},
		{4, []api.Errno{api.OK, api.ErrArg, api.ErrNone, api.ErrBusy}},
		{5, []api.Errno{api.OK, api.ErrArg, api.ErrTwice, api.ErrNone, api.ErrBusy}},
		{6, []api.Errno{api.OK, api.ErrArg, api.ErrNone}},
		{7, []api.Errno{api.OK, api.ErrArg, api.ErrNone}},
		{8, []api.Errno{api.OK, api.ErrArg, api.ErrNone, api.ErrRange}},
		{9, []api.Errno{api.OK, api.ErrArg, api.ErrRange, api.ErrNone, api.ErrBusy, api.ErrTwice, api.ErrSpace}},
	} {
		for _, e := range p.list {
			if met[[2]int{p.kind, int(e)}] == 0 {
				t.Errorf("kind %d was never answered %d", p.kind, e)
			}
		}
	}
}

// P16.3

// checkImage: a sound table's image is as the document says, and makes it.
func checkImage(t *testing.T, name string, at api.Table) {
	t.Helper()
	list, e := table.Image(at)
	if e != api.OK || !slices.Equal(list, modelOf(at).image()) {
		t.Fatalf("%s: image of %+v: %+v, %d", name, at, list, e)
	}
	if again, e := table.Apply(fresh(t, len(at.Owners)), list...); e != api.OK || !same(again, at) {
		t.Fatalf("%s: the image of %+v makes %+v, %d", name, at, again, e)
	}
}

func TestImage(t *testing.T) {
	want := []api.Rec{
		{Kind: 1, A: 2, B: 3, C: 131072, D: 2, Key: someKey},
		{Kind: 1, A: 5, B: 1, C: 0, D: 64, Key: "fedcba9876543210"},
		{Kind: 1, A: 7, B: 3, C: 1 << 32, D: 1, Key: strings.Repeat("\x00", 16)},
		{Kind: 5, A: 1, B: 7, C: 32},
		{Kind: 8, A: 1, B: 1 << 40},
		{Kind: 5, A: 3, B: 5},
		{Kind: 5, A: 6, B: 2, C: 9},
		{Kind: 8, A: 6, B: 4},
		{Kind: 9, A: 1, B: 2},
		{Kind: 9, A: 2, B: 7},
		{Kind: 9, A: 4, B: 2},
		{Kind: 9, A: 5, B: 5},
		{Kind: 3, A: 5},
	}
	list, e := table.Image(full())
	if e != api.OK || !slices.Equal(list, want) {
		t.Errorf("%+v, %d", list, e)
	}
	if list, e := table.Image(fresh(t, 64)); e != api.OK || len(list) != 0 {
		t.Errorf("of an empty table: %+v, %d", list, e)
	}
	checkImage(t, "full", full())
}

// The rules

// roomy: a table whose lists have spare room, filled with what must not be touched.
func roomy() api.Table {
	at := full()
	mark := api.Table{
		Tenants: []api.Tenant{{Id: 77, Key: "mark"}, {Id: 78}, {Id: 79}, {Id: 80}, {Id: 81}},
		Volumes: []api.Volume{{Id: 77}, {Id: 78}, {Id: 79}, {Id: 80}, {Id: 81}, {Id: 82}},
		Owners:  []int{77, 78, 79, 80},
	}
	at.Tenants = append(at.Tenants, mark.Tenants...)[:3]
	at.Volumes = append(at.Volumes, mark.Volumes...)[:3]
	at.Owners = append(at.Owners, mark.Owners...)[:8]
	return at
}

// whole: a table's lists, spare room included.
func whole(at api.Table) api.Table {
	return api.Table{
		Tenants: slices.Clone(at.Tenants[:cap(at.Tenants)]),
		Volumes: slices.Clone(at.Volumes[:cap(at.Volumes)]),
		Owners:  slices.Clone(at.Owners[:cap(at.Owners)]),
	}
}

// scribble: all memory of a table becomes something else, spare room included.
func scribble(at api.Table) {
	for i := range at.Tenants[:cap(at.Tenants)] {
		at.Tenants[:cap(at.Tenants)][i] = api.Tenant{Id: -5, Key: "scribble"}
	}
	for i := range at.Volumes[:cap(at.Volumes)] {
		at.Volumes[:cap(at.Volumes)][i] = api.Volume{Id: -5}
	}
	for i := range at.Owners[:cap(at.Owners)] {
		at.Owners[:cap(at.Owners)][i] = -5
	}
}

func TestMemoryOfApply(t *testing.T) {
	list := []api.Rec{quota(7, 2), drop(3), own(5, 0), gone(5), tenant(4, 2), tenant(1, 1), volume(0, 1, 3), volume(7, 4, 3), own(0, 4), own(1, 0), dying(2), base(7, 9), size(1, 1)}
	list = append(list, slices.Repeat([]api.Rec{{Kind: -5}}, 5)...)[:len(list)]
	rooms := slices.Clone(list[:cap(list)])
	for n := range len(list) + 1 {
		at := roomy()
		ahead := whole(at)
		got, e := table.Apply(at, list[:n]...)
		other, f := table.Apply(at, list[:n]...)
		if e != api.OK || f != api.OK {
			t.Fatalf("%d changes: %d, %d", n, e, f)
		}
		if !same(whole(at), ahead) || !slices.Equal(list[:cap(list)], rooms) {
			t.Fatalf("%d changes: what was handed in was changed", n)
		}
		want := modelOf(got)
		scribble(at)
		scribble(other)
		if !same(got, want.table()) {
			t.Fatalf("%d changes: the answer shares memory", n)
		}
	}
	if got, e := table.Apply(roomy(), append(list, dying(2))...); e != api.ErrTwice || !reflect.DeepEqual(got, api.Table{}) {
		t.Errorf("%+v, %d", got, e)
	}
}

// What is refused may have gone through changes ahead: nobody sees them.
func TestMemoryOfRefusals(t *testing.T) {
	at := roomy()
	ahead := whole(at)
	for _, list := range [][]api.Rec{
		{drop(3), own(5, 0), gone(5), tenant(5, 1), own(0, 5), {Kind: 10}},
		{size(1, 3), base(6, 5), dying(2), dying(7), dying(2)},
		{quota(7, 1), quota(2, 2), own(0, 7)},
	} {
		if _, e := table.Apply(at, list...); e == api.OK || !same(whole(at), ahead) {
			t.Errorf("%+v: %d, %+v", list, e, at)
		}
	}
}

// What is gone stands nowhere, spare room included.
func TestNothingIsLeftOfWhoIsGone(t *testing.T) {
	at := made(t, full(), drop(3), own(5, 0), gone(5), drop(6), own(1, 0), own(4, 0), dying(2), gone(2), drop(1))
	all := whole(at)
	for _, x := range all.Tenants {
		if x.Id != 7 && x != (api.Tenant{}) {
			t.Errorf("%+v", x)
		}
	}
	for _, v := range all.Volumes {
		if v != (api.Volume{}) {
			t.Errorf("%+v", v)
		}
	}
}

func TestMemoryOfTheOthers(t *testing.T) {
	a, b := fresh(t, 9), fresh(t, 9)
	scribble(a)
	if !same(b, api.Table{Owners: make([]int, 9)}) || !same(fresh(t, 9), b) {
		t.Error("New answers memory that is shared")
	}
	at := roomy()
	ahead := whole(at)
	list, _ := table.Image(at)
	other, _ := table.Image(at)
	want := slices.Clone(list)
	table.Check(at)
	table.Owned(at, 2)
	if !same(whole(at), ahead) {
		t.Error("what was handed in was changed")
	}
	scribble(at)
	for i := range other[:cap(other)] {
		other[:cap(other)][i] = api.Rec{Kind: -5}
	}
	if !slices.Equal(list, want) {
		t.Error("Image answers memory that is shared")
	}
}

// Great lists that are not sound are told as such, and soon.
func TestGreatLists(t *testing.T) {
	for name, at := range map[string]api.Table{
		"tenants": {Tenants: slices.Repeat(full().Tenants, 1<<18), Owners: make([]int, 8)},
		"volumes": {Tenants: full().Tenants, Volumes: slices.Repeat(full().Volumes, 1<<18), Owners: make([]int, 8)},
		"owners":  {Tenants: full().Tenants, Owners: make([]int, 1<<20)},
		"key":     {Tenants: []api.Tenant{{Id: 1, Quota: 1, Burst: 1, Key: strings.Repeat("k", 1<<20)}}, Owners: make([]int, 8)},
	} {
		if e := table.Check(at); e != api.ErrForm {
			t.Errorf("%s: %d", name, e)
		}
	}
	if n := table.Owned(api.Table{Owners: slices.Repeat([]int{3}, 1<<20)}, 3); n != 1<<20 {
		t.Errorf("Owned: %d", n)
	}
	many := slices.Repeat([]api.Rec{own(0, 0), own(0, 2), {}}, 1<<15)
	at := made(t, full(), own(0, 2))
	if got, e := table.Apply(at, many...); e != api.OK || !same(got, at) {
		t.Errorf("many changes: %+v, %d", got, e)
	}
	if _, e := table.Apply(at, api.Rec{Key: strings.Repeat("k", 1<<20)}); e != api.ErrArg {
		t.Errorf("a great key: %d", e)
	}
}

// recOf: a change by three bytes: mostly near to what a small table may have.
func recOf(b []byte) api.Rec {
	r := api.Rec{Kind: int(b[0] % 11), A: int(b[1]%10) - 1, B: int(b[1] / 10)}
	if b[0]/11 == 0 {
		r.B = int(b[2])
	}
	switch r.Kind {
	case 1:
		r.C, r.D, r.Key = int(b[2]), 1+int(b[2]%64), someKey
	case 5:
		r.C = int(b[2])
	}
	return r
}

func FuzzTablesAgree(f *testing.F) {
	f.Add(3, []byte("some changes of any kind, one behind the other"))
	f.Add(64, []byte{})
	f.Add(0, []byte{1})
	f.Fuzz(func(t *testing.T, slots int, b []byte) {
		at, e := table.New(slots)
		if good := slots >= 1 && slots <= 64; good != (e == api.OK) {
			t.Fatalf("New(%d): %d", slots, e)
		}
		if e != api.OK {
			return
		}
		m := newModel(slots)
		for len(b) >= 3 {
			r := recOf(b)
			b = b[3:]
			got, e := table.Apply(at, r)
			if want := m.change(r); e != want {
				t.Fatalf("%+v of %+v: %d, want %d", r, at, e, want)
			}
			if e == api.OK {
				at = got
			}
			if !same(at, m.table()) || table.Check(at) != api.OK {
				t.Fatalf("%+v: %+v, want %+v", r, at, m.table())
			}
		}
		checkImage(t, "at the end", at)
	})
}
