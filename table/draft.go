package table

import (
	"slices"

	"stowage/api"
)

// draft is a table that is being changed: one of its own memory, sound ahead of each change and behind it.
type draft struct {
	api.Table
}

// change: it, if it is formed.
func (d *draft) change(r api.Rec) api.Errno {
	switch r.Kind {
	case api.RecTenant:
		return d.addTenant(api.Tenant{Id: r.A, Quota: r.B, Rate: r.C, Burst: r.D, Key: r.Key})
	case api.RecQuota:
		return d.setQuota(r.A, r.B)
	case api.RecDying:
		return d.markDying(r.A)
	case api.RecGone:
		return d.removeTenant(r.A)
	case api.RecVolume:
		return d.addVolume(api.Volume{Id: r.A, Tenant: r.B, Blocks: r.C})
	case api.RecSize:
		return d.setBlocks(r.A, r.B)
	case api.RecDrop:
		return d.removeVolume(r.A)
	case api.RecBase:
		return d.setBase(r.A, r.B)
	case api.RecOwn:
		return d.setOwner(r.A, r.B)
	}
	return api.OK
}

// tenant: the one of an Id, or nil.
func (d *draft) tenant(id int) *api.Tenant {
	i := slices.IndexFunc(d.Tenants, func(x api.Tenant) bool { return x.Id == id })
	if i < 0 {
		return nil
	}
	return &d.Tenants[i]
}

// volume: the one of an Id, or nil.
func (d *draft) volume(id int) *api.Volume {
	i := slices.IndexFunc(d.Volumes, func(v api.Volume) bool { return v.Id == id })
	if i < 0 {
		return nil
	}
	return &d.Volumes[i]
}

// hasVolume: has a tenant one?
func (d *draft) hasVolume(tenant int) bool {
	return slices.ContainsFunc(d.Volumes, func(v api.Volume) bool { return v.Tenant == tenant })
}

// quotas: all together.
func (d *draft) quotas() int {
	sum := 0
	for _, x := range d.Tenants {
		sum += x.Quota
	}
	return sum
}

// addTenant: one that is not there yet.
func (d *draft) addTenant(x api.Tenant) api.Errno {
	if d.tenant(x.Id) != nil {
		return api.ErrTwice
	}
	if d.quotas()+x.Quota > len(d.Owners) {
		return api.ErrSpace
	}
	d.Tenants = append(d.Tenants, x)
	slices.SortFunc(d.Tenants, func(a, b api.Tenant) int { return a.Id - b.Id })
	return api.OK
}

// setQuota: a tenant may own so many slots.
func (d *draft) setQuota(id, quota int) api.Errno {
	x := d.tenant(id)
	if x == nil {
		return api.ErrNone
	}
	if x.Dying || Owned(d.Table, id) > quota {
		return api.ErrBusy
	}
	if d.quotas()-x.Quota+quota > len(d.Owners) {
		return api.ErrSpace
	}
	x.Quota = quota
	return api.OK
}

// markDying: a tenant takes nothing any more.
func (d *draft) markDying(id int) api.Errno {
	x := d.tenant(id)
	if x == nil {
		return api.ErrNone
	}
	if x.Dying {
		return api.ErrTwice
	}
	x.Dying = true
	return api.OK
}

// removeTenant: one that is Dying, and has nothing left.
func (d *draft) removeTenant(id int) api.Errno {
	x := d.tenant(id)
	if x == nil {
		return api.ErrNone
	}
	if !x.Dying || Owned(d.Table, id) > 0 || d.hasVolume(id) {
		return api.ErrBusy
	}
	d.Tenants = slices.DeleteFunc(d.Tenants, func(x api.Tenant) bool { return x.Id == id })
	return api.OK
}

// addVolume: one that is not there yet.
func (d *draft) addVolume(v api.Volume) api.Errno {
	if d.volume(v.Id) != nil {
		return api.ErrTwice
	}
	x := d.tenant(v.Tenant)
	if x == nil {
		return api.ErrNone
	}
	if x.Dying {
		return api.ErrBusy
	}
	d.Volumes = append(d.Volumes, v)
	slices.SortFunc(d.Volumes, func(a, b api.Volume) int { return a.Id - b.Id })
	return api.OK
}

// setBlocks: a volume has so many.
func (d *draft) setBlocks(id, blocks int) api.Errno {
	v := d.volume(id)
	if v == nil {
		return api.ErrNone
	}
	v.Blocks = blocks
	return api.OK
}

// removeVolume: whoever has it.
func (d *draft) removeVolume(id int) api.Errno {
	if d.volume(id) == nil {
		return api.ErrNone
	}
	d.Volumes = slices.DeleteFunc(d.Volumes, func(v api.Volume) bool { return v.Id == id })
	return api.OK
}

// setBase: a volume's, which never falls.
func (d *draft) setBase(id, base int) api.Errno {
	v := d.volume(id)
	if v == nil {
		return api.ErrNone
	}
	if base < v.Base {
		return api.ErrRange
	}
	v.Base = base
	return api.OK
}

// setOwner: a slot is given up (to owner 0), or taken. From one tenant to another it goes only by way of nobody.
func (d *draft) setOwner(slot, owner int) api.Errno {
	if slot >= len(d.Owners) {
		return api.ErrRange
	}
	if owner == 0 {
		return d.giveUp(slot)
	}
	return d.take(slot, owner)
}

// giveUp: a slot that somebody owns.
func (d *draft) giveUp(slot int) api.Errno {
	if d.Owners[slot] == 0 {
		return api.ErrNone
	}
	d.Owners[slot] = 0
	return api.OK
}

// take: a slot that nobody owns.
func (d *draft) take(slot, tenant int) api.Errno {
	x := d.tenant(tenant)
	if x == nil {
		return api.ErrNone
	}
	if x.Dying {
		return api.ErrBusy
	}
	if d.Owners[slot] != 0 {
		return api.ErrTwice
	}
	if Owned(d.Table, tenant) >= x.Quota {
		return api.ErrSpace
	}
	d.Owners[slot] = tenant
	return api.OK
}
