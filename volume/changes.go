package volume

import (
	"slices"

	"stowage/api"
	"stowage/cache"
	"stowage/table"
)

// nobody: whose slots hold nothing.
const nobody = 0

// noVolume: an Id that no volume has.
const noVolume = -1

// change: what is done of a keeper that may still be used, and the error with which it was given up.
func (k *Keeper) change(do func()) api.Errno {
	switch {
	case k == nil:
		return api.ErrClosed
	case k.dark:
		return api.ErrPower
	}
	return k.attempt(func() {
		// What a cache answers of no volume tells whether a call of it answered ErrPower.
		_, e := k.cache.Read(noVolume, 0)
		demand(e == api.ErrNone, e)
		do()
	})
}

// attempt: what is done, and the error with which it was given up.
func (k *Keeper) attempt(do func()) (e api.Errno) {
	defer func() {
		// Only demand gives up; what else could panic would be a fault of the program, which the assertion does not hide.
		if reason := recover(); reason != nil {
			e = reason.(api.Errno)
			k.dark = e == api.ErrPower
		}
	}()
	do()
	return api.OK
}

// demand: what does not hold gives the attempt up.
func demand(holds bool, e api.Errno) {
	if !holds {
		panic(e)
	}
}

// need: an error of a layer below gives the attempt up.
func need(e api.Errno) { demand(e == api.OK, e) }

// load: what the disks keep, without what was being deleted.
func (k *Keeper) load() {
	k.reopen()
	for _, t := range k.Table().Tenants {
		if t.Dying {
			k.remove(t)
		}
	}
	// Changes that were cut off may have left any of them.
	t := k.Table()
	k.blank(func(n int) bool { return !hasBlock(t, n) })
}

// reopen: the cache by the table as it is. What does not count any more goes from its slots.
func (k *Keeper) reopen() {
	c, e := cache.Open(k.fast, k.slow, k.slots)
	need(e)
	k.cache, k.Vault = c, c.Vault()
}

// check: would changes be made?
func (k *Keeper) check(list ...api.Rec) {
	_, e := table.Apply(k.Table(), list...)
	need(e)
}

// commit: changes, all at one time, and what follows of them; where that is cut off, Open does it.
func (k *Keeper) commit(list ...api.Rec) {
	old := k.Table()
	need(k.Commit(list...))
	k.reopen()
	now := k.Table()
	k.blank(func(n int) bool { return hasBlock(old, n) && !hasBlock(now, n) })
}

// blank: sectors of the slow disk of which it is so have bytes 0, lasting. Which ones are written does not hang on what stands there, so that no tenant is told of another one's texts.
func (k *Keeper) blank(goes func(n int) bool) {
	for n := 0; k.hasSector(n); n++ {
		if goes(n) {
			need(k.slow.Write(n, make([]byte, api.Sector)))
		}
	}
	need(k.slow.Flush())
}

// hasSector: has the slow disk such a sector?
func (k *Keeper) hasSector(n int) bool {
	_, e := k.slow.Lasting(n)
	return e == api.OK
}

// hasBlock: does a sector of the slow disk belong to a block of a volume?
func hasBlock(t api.Table, n int) bool {
	return slices.ContainsFunc(t.Volumes, func(v api.Volume) bool {
		block := n - v.Id*api.MaxBlocks
		return block >= 0 && block < v.Blocks
	})
}

// remove: a tenant, and all that it has. Once it is dying, it does not stay.
func (k *Keeper) remove(x api.Tenant) {
	var list []api.Rec
	if !x.Dying {
		list = append(list, api.Rec{Kind: api.RecDying, A: x.Id})
	}
	for _, v := range k.Table().Volumes {
		if v.Tenant == x.Id {
			list = append(list, api.Rec{Kind: api.RecDrop, A: v.Id})
		}
	}
	// Without its volumes none of its heads counts, so that its slots are emptied ahead of being nobody's.
	k.commit(list...)
	k.commit(append(giveBack(k.Table(), x.Id, 0), api.Rec{Kind: api.RecGone, A: x.Id})...)
}

// setQuotas: by changes of tenants' quotas, all at one time. Who owns more is cleaned, and gives slots back.
func (k *Keeper) setQuotas(quotas ...api.Rec) {
	t := k.Table()
	var over []int
	var list []api.Rec
	for _, r := range quotas {
		if back := giveBack(t, r.A, r.B); len(back) > 0 {
			over = append(over, r.A)
			list = append(list, back...)
		}
	}
	list = append(list, quotas...)
	k.check(list...)
	k.clean(over...)
	k.commit(list...)
}

// clean: the slots of tenants hold nothing. All values are read ahead of that: where one can't be, nothing is changed.
func (k *Keeper) clean(tenants ...int) {
	for _, v := range k.Table().Volumes {
		if slices.Contains(tenants, v.Tenant) {
			k.readAll(v)
		}
	}
	for _, id := range tenants {
		need(k.cache.Clean(id))
	}
}

// readAll: a volume's blocks can be read.
func (k *Keeper) readAll(v api.Volume) {
	for block := range v.Blocks {
		_, e := k.cache.Read(v.Id, block)
		need(e)
	}
}

// giveBack: the changes by which a tenant keeps only so many slots.
func giveBack(t api.Table, tenant, keeps int) []api.Rec {
	var list []api.Rec
	for slot, owner := range t.Owners {
		if owner == nobody || owner != tenant {
			continue
		}
		if keeps > 0 {
			keeps--
		} else {
			list = append(list, api.Rec{Kind: api.RecOwn, A: slot, B: nobody})
		}
	}
	return list
}

// tenantIn: a tenant of a table.
func tenantIn(t api.Table, id int) api.Tenant {
	i := slices.IndexFunc(t.Tenants, func(x api.Tenant) bool { return x.Id == id })
	demand(i >= 0, api.ErrNone)
	return t.Tenants[i]
}
