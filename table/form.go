package table

import (
	"slices"

	"stowage/api"
)

// span: from where to where a number may be. That of a number that a change does not name is its zero value: the number is 0.
type span struct{ least, most int }

// form: what the numbers of a change are, and how many bytes its key has.
type form struct {
	a, b, c, d span
	key        int
}

// formed: are a change's kind, numbers and key as the kind asks?
func formed(r api.Rec) bool {
	if !(span{api.RecNone, api.RecOwn}).has(r.Kind) {
		return false
	}
	f := formOf(r.Kind)
	return f.a.has(r.A) && f.b.has(r.B) && f.c.has(r.C) && f.d.has(r.D) && len(r.Key) == f.key
}

// has: is a number within it?
func (s span) has(n int) bool { return n >= s.least && n <= s.most }

// formOf: the form of a kind of changes.
func formOf(kind int) form {
	tenant := span{1, api.MaxTenants}
	quota := span{1, api.MaxSlots}
	volume := span{0, api.MaxVolumes - 1}
	blocks := span{0, api.MaxBlocks}
	switch kind {
	case api.RecTenant:
		return form{a: tenant, b: quota, c: span{0, api.MaxFixed}, d: span{1, api.MaxBurst}, key: api.KeySize}
	case api.RecQuota:
		return form{a: tenant, b: quota}
	case api.RecDying, api.RecGone:
		return form{a: tenant}
	case api.RecVolume:
		return form{a: volume, b: tenant, c: blocks}
	case api.RecSize:
		return form{a: volume, b: blocks}
	case api.RecDrop:
		return form{a: volume}
	case api.RecBase:
		return form{a: volume, b: span{0, api.MaxTime}}
	case api.RecOwn:
		return form{a: span{0, api.MaxSlots - 1}, b: span{0, api.MaxTenants}}
	}
	return form{}
}

// sound: is a table? Each thing of it must be as the change that makes it may be.
func sound(t api.Table) bool {
	slots := span{1, api.MaxSlots}
	return slots.has(len(t.Owners)) && tenantsSound(t) && volumesSound(t) && ownersSound(t)
}

// tenantsSound: by rising Id, of right numbers, and with Quotas that are not more than the slots?
func tenantsSound(t api.Table) bool {
	last, quotas := 0, 0
	for _, x := range t.Tenants {
		if x.Id <= last || !formed(tenantRec(x)) {
			return false
		}
		last = x.Id
		quotas += x.Quota
	}
	return quotas <= len(t.Owners)
}

// volumesSound: by rising Id, of right numbers, and each of a tenant that is there?
func volumesSound(t api.Table) bool {
	last := -1
	for _, v := range t.Volumes {
		if v.Id <= last || !formed(volumeRec(v)) || !formed(baseRec(v)) || !there(t, v.Tenant) {
			return false
		}
		last = v.Id
	}
	return true
}

// ownersSound: is each slot nobody's, or of a tenant that is there, and does none own more than its Quota?
func ownersSound(t api.Table) bool {
	stranger := func(owner int) bool { return owner != 0 && !there(t, owner) }
	greedy := func(x api.Tenant) bool { return Owned(t, x.Id) > x.Quota }
	return !slices.ContainsFunc(t.Owners, stranger) && !slices.ContainsFunc(t.Tenants, greedy)
}

// there: is a tenant?
func there(t api.Table, tenant int) bool {
	d := draft{t}
	return d.tenant(tenant) != nil
}
