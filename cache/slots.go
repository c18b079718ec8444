package cache

import (
	"slices"

	"stowage/api"
	"stowage/header"
	"stowage/seal"
)

// nobody: whose slots are free to be taken.
const nobody = 0

// load: what the slots hold that counts; the others hold nothing then.
func (c *Cache) load() {
	// What is read here may not be lost behind what is written next.
	flush(c.fast)
	flush(c.slow)
	table := c.vault.Table()
	counting, last, e := header.Newest(table, c.found())
	need(e)
	for i, v := range table.Volumes {
		c.last[v.Id] = last[i]
	}
	for _, h := range counting {
		c.hold(h)
	}
	c.settle()
	rest := c.litter()
	c.empty(rest...)
	c.erase(rest...)
}

// found: the heads that stand in the slots; one without anything for what is no head.
func (c *Cache) found() []api.Head {
	var list []api.Head
	for slot := range c.heads {
		h, _ := header.Decode(read(c.fast, headAt(slot)))
		list = append(list, h)
	}
	return list
}

// litter: slots that hold nothing that counts, but have other bytes than 0.
func (c *Cache) litter() []int {
	var list []int
	for slot := range c.heads {
		clean := isBlank(c.fast, headAt(slot)) && isBlank(c.fast, sealedAt(slot))
		if c.isEmpty(slot) && !clean {
			list = append(list, slot)
		}
	}
	return list
}

// spotOf: where a head's block belongs.
func spotOf(h api.Head) spot { return spot{h.Volume, h.Block} }

// isEmpty: does a slot hold nothing?
func (c *Cache) isEmpty(slot int) bool { return c.heads[slot] == api.Head{} }

// counts: does a slot hold its block's newest head?
func (c *Cache) counts(slot int) bool {
	newest, there := c.where[spotOf(c.heads[slot])]
	return there && newest == slot
}

// split: of some slots those with heads that count, and those with heads that are left over.
func (c *Cache) split(slots []int) (counting, over []int) {
	for _, slot := range slots {
		switch {
		case c.counts(slot):
			counting = append(counting, slot)
		case !c.isEmpty(slot):
			over = append(over, slot)
		}
	}
	return counting, over
}

// hold: a slot holds its block's newest head.
func (c *Cache) hold(h api.Head) {
	c.heads[h.Slot], c.where[spotOf(h)] = h, h.Slot
	c.ring.Touch(h.Slot)
}

// release: a slot holds nothing any more.
func (c *Cache) release(slot int) {
	if c.counts(slot) {
		delete(c.where, spotOf(c.heads[slot]))
	}
	c.heads[slot] = api.Head{}
}

// text: what a tenant's slot holds, or ErrSeal.
func (c *Cache) text(t api.Tenant, slot int) ([]byte, api.Errno) {
	return seal.Open(t.Key, c.heads[slot], read(c.fast, sealedAt(slot)))
}

// value: of a tenant's block.
func (c *Cache) value(t api.Tenant, at spot) []byte {
	slot, there := c.where[at]
	if !there {
		return read(c.slow, slowAt(at))
	}
	b, e := c.text(t, slot)
	need(e)
	c.ring.Touch(slot)
	return b
}

// put: a text is the value of a tenant's block.
func (c *Cache) put(t api.Tenant, at spot, text []byte) {
	if c.last[at.volume] < api.MaxTime {
		if slot, found := c.room(t); found {
			c.fill(t, at, slot, text)
			return
		}
	}
	c.putThrough(t, at, text)
}

// fill: an empty slot with a text that is the value of a tenant's block.
func (c *Cache) fill(t api.Tenant, at spot, slot int, text []byte) {
	h := api.Head{Tenant: t.Id, Volume: at.volume, Block: at.block, Slot: slot, Version: c.last[at.volume] + 1}
	// What a table has fits both, and so does a version that is not above MaxTime.
	sealed, tag, _ := seal.Seal(t.Key, h, text)
	h.Tag = tag
	b, _ := header.Encode(h)
	write(c.fast, sealedAt(slot), sealed)
	// A head that lasts counts, so what it tells of lasts ahead of it.
	flush(c.fast)
	write(c.fast, headAt(slot), b)
	c.hold(h)
	c.last[at.volume] = h.Version
}

// putThrough: likewise, on the slow disk at once.
func (c *Cache) putThrough(t api.Tenant, at spot, text []byte) {
	_, over := c.split(slotsOf(c.vault.Table(), t.Id))
	c.settle()
	c.empty(over...)
	write(c.slow, slowAt(at), text)
	flush(c.slow)
	if slot, there := c.where[at]; there {
		c.empty(slot)
	}
}

// room: an empty slot for a tenant, if there is one or one can be made.
func (c *Cache) room(t api.Tenant) (slot int, found bool) {
	table := c.vault.Table()
	own := slotsOf(table, t.Id)
	if i := slices.IndexFunc(own, c.isEmpty); i >= 0 {
		return own[i], true
	}
	if len(own) < t.Quota {
		return c.take(t, slices.Index(table.Owners, nobody)), true
	}
	if _, over := c.split(own); len(over) > 0 {
		c.settle()
		c.empty(over...)
		return over[0], true
	}
	return c.leave(t, own...)
}

// take: nobody's slot, for a tenant.
func (c *Cache) take(t api.Tenant, slot int) int {
	need(c.vault.Commit(api.Rec{Kind: api.RecOwn, A: slot, B: t.Id}))
	return slot
}

// leave: of a tenant's slots, which all count, one whose text goes to the slow disk. What cannot be read stays, so that nobody takes an older text for it.
func (c *Cache) leave(t api.Tenant, own ...int) (slot int, found bool) {
	// All slots are on the ring, and stay there; a tenant without any would have been given one.
	slot, _ = c.ring.Leave(own...)
	c.ring.Put(slot)
	text, e := c.text(t, slot)
	if e != api.OK {
		return 0, false
	}
	c.settle()
	c.moveTexts([][]byte{text}, slot)
	return slot, true
}

// moveOut: all that a tenant's slots hold goes to the slow disk.
func (c *Cache) moveOut(t api.Tenant, own []int) {
	counting, over := c.split(own)
	var texts [][]byte
	for _, slot := range counting {
		b, e := c.text(t, slot)
		need(e)
		texts = append(texts, b)
	}
	c.settle()
	c.empty(over...)
	c.moveTexts(texts, counting...)
}

// moveTexts: the texts of slots with heads that count go to the slow disk. Of their blocks no heads may be left over: they would count then.
func (c *Cache) moveTexts(texts [][]byte, slots ...int) {
	for i, slot := range slots {
		write(c.slow, slowAt(spotOf(c.heads[slot])), texts[i])
	}
	flush(c.slow)
	c.empty(slots...)
}

// settle: all writes last, and the Bases tell so. Until then a head less would be a gap, behind which no head counts.
func (c *Cache) settle() {
	var list []api.Rec
	for _, v := range c.vault.Table().Volumes {
		if c.last[v.Id] > v.Base {
			list = append(list, api.Rec{Kind: api.RecBase, A: v.Id, B: c.last[v.Id]})
		}
	}
	if len(list) > 0 {
		// A Base that lasts without the heads below it would leave their writes out.
		flush(c.fast)
		need(c.vault.Commit(list...))
	}
}

// empty: slots hold no heads, lasting, so that other bytes may be put there.
func (c *Cache) empty(slots ...int) {
	for _, slot := range slots {
		write(c.fast, headAt(slot), blank())
		c.release(slot)
	}
	flush(c.fast)
}

// erase: what empty slots held has bytes 0, lasting.
func (c *Cache) erase(slots ...int) {
	for _, slot := range slots {
		write(c.fast, sealedAt(slot), blank())
	}
	flush(c.fast)
}
