package cache_test

import (
	"math/rand"
	"reflect"
	"slices"
	"strconv"
	"testing"

	"stowage/api"
	"stowage/cache"
	"stowage/disk"
	"stowage/table"
)

// P19.3, P19.4

// keeps: which of the pending writes last: of few all sets, of more none, all, each alone, all but each, the first ones, and some random ones.
func keeps(pending int) [][]bool {
	var list [][]bool
	add := func(lasts func(i int) bool) {
		keep := make([]bool, pending)
		for i := range keep {
			keep[i] = lasts(i)
		}
		list = append(list, keep)
	}
	if pending <= 3 {
		for set := range 1 << pending {
			add(func(i int) bool { return set>>i&1 == 1 })
		}
		return list
	}
	add(func(int) bool { return true })
	n := random(pending)
	for k := range pending {
		add(func(i int) bool { return i == k })
		add(func(i int) bool { return i != k })
		add(func(i int) bool { return i < k })
		add(func(int) bool { return n.Intn(2) == 0 })
	}
	return list
}

// scene is what is done of a rig; the power goes in its steps.
type scene struct {
	name  string
	slots int
	list  []api.Rec
	ahead []step // with power
	steps []step
}

func writes(of int, blocks ...int) []step {
	var list []step
	for i, block := range blocks {
		list = append(list, put(of, block, 1000*of+i))
	}
	return list
}

func scenes() []scene {
	one := []api.Rec{tenant(2, 1), volume(3, 2, 3)}
	two := []api.Rec{tenant(2, 2), volume(3, 2, 3)}
	three := []api.Rec{tenant(2, 3), volume(3, 2, 3)}
	several := []api.Rec{tenant(2, 2), tenant(5, 1), volume(3, 2, 3), volume(4, 2, 2), volume(0, 5, 2)}
	return []scene{
		{"one slot", 1, one, nil, writes(3, 0, 1, 1, 0, 2)},
		{"one slot, opened", 1, one, []step{put(3, 0, 1), reopen()}, append(writes(3, 0, 1), sure(3), put(3, 0, 7))},
		{"two slots", 2, two, nil, writes(3, 0, 0, 1, 2, 1, 1)},
		{"left over", 3, three, nil, writes(3, 0, 0, 0, 1, 0, 0, 1)},
		{"flushed", 3, three, nil, append(append(writes(3, 0, 1), sure(3)), append(writes(3, 2, 0, 1), sure(3), put(3, 1, 9))...)},
		{"several", 3, several, nil, append(append(writes(3, 0, 1), writes(0, 0, 1)...), append(writes(4, 1, 0), put(3, 2, 4), sure(4), put(0, 0, 5), sure(0))...)},
		{"cleaned", 3, three, writes(3, 0, 0, 1), []step{clean(2), put(3, 0, 8), put(3, 0, 9), clean(2), put(3, 1, 10)}},
		{"cleaned of several", 3, several, append(writes(3, 0, 0), put(0, 1, 3)), []step{clean(2), put(0, 0, 8), clean(5), put(4, 0, 9)}},
		{"the last versions", 3, append(three, base(3, api.MaxTime-3)), []step{reopen()}, append(writes(3, 0, 0, 1, 0, 1, 0, 1), clean(2))},
		{"the last version", 2, append(two, base(3, api.MaxTime-1)), []step{reopen(), put(3, 0, 5)}, append(writes(3, 1, 0, 1), sure(3), put(3, 1, 6))},
		{"changes", 4, two, []step{put(3, 0, 1)}, []step{commit(quota(2, 3)), put(3, 0, 2), commit(volume(5, 2, 1), tenant(1, 1)), put(5, 0, 3), put(3, 1, 4), commit(volume(0, 1, 1)), put(0, 0, 5)}},
		{"spoilt", 2, two, []step{put(3, 0, 1), put(3, 1, 2), spoilt(3, 0)}, writes(3, 0, 1, 0, 2)},
	}
}

// reopen: without a loss of power.
func reopen() step { return func(r *rig) api.Errno { r.open(); return api.OK } }

// spoilt: what a block's slot holds can't be read, which is as if it had been written without a text.
func spoilt(volume, block int) step {
	return func(r *rig) api.Errno {
		r.spoil(r.slotOf(volume, block), 5)
		flush(r, r.fast)
		r.writes[volume] = append(r.writes[volume], written{block: block})
		r.sure[volume] = len(r.writes[volume])
		return api.OK
	}
}

// run: a scene up to where the power goes; whether it does.
func (s scene) run(t testing.TB, fastLimit, slowLimit int) (r *rig, cut bool) {
	t.Helper()
	r = rigOf(t, s.slots, s.list...)
	r.do(s.ahead...)
	r.fast.Limit(fastLimit)
	r.slow.Limit(slowLimit)
	for i, do := range s.steps {
		switch e := do(r); e {
		case api.OK:
			r.sound()
		case api.ErrPower:
			r.sound()
			return r, true
		default:
			t.Fatalf("%s: step %d: %d", s.name, i, e)
		}
	}
	return r, false
}

// crash: of both disks; the table is one of these then.
func (r *rig) crash(fast, slow []bool) []api.Table {
	r.Helper()
	now := r.c.Vault().Table()
	tables := []api.Table{now}
	if next, e := table.Apply(now, r.perhaps...); e == api.OK {
		tables = append(tables, next)
	}
	r.fast.Crash(fast...)
	r.slow.Crash(slow...)
	r.perhaps = nil
	return tables
}

// back: behind a crash the disks keep one of these tables, and of each volume what some number of its writes made, all flushed ones among them. Those that are lost are forgotten.
func (r *rig) back(tables []api.Table) {
	r.Helper()
	got, _, values := told(r, r.fast, r.slow, r.slots)
	if !slices.ContainsFunc(tables, func(was api.Table) bool { return alike(got, was) }) {
		r.Fatalf("the table is %+v, want one of %+v", got, tables)
	}
	for _, v := range got.Volumes {
		made := len(r.writes[v.Id])
		for made >= r.sure[v.Id] && !slices.Equal(values[v.Id], r.behind(v, made)) {
			made--
		}
		if made < r.sure[v.Id] {
			r.Fatalf("volume %d is %x, not what from %d to %d writes made: %v", v.Id, values[v.Id], r.sure[v.Id], len(r.writes[v.Id]), r.writes[v.Id])
		}
		// Writes up to the Base last; the volumes that begin with one above 1000 apart.
		if made < v.Base && v.Base <= 1000 {
			r.Fatalf("volume %d has Base %d, but only %d writes", v.Id, v.Base, made)
		}
		r.writes[v.Id] = r.writes[v.Id][:made]
	}
}

// goesOn: behind a crash all is as it was, and goes on.
func (r *rig) goesOn() {
	r.Helper()
	r.opens()
	r.open()
	r.right()
	table := r.c.Vault().Table()
	for i := range 3 {
		for _, v := range table.Volumes {
			r.do(put(v.Id, i*i%v.Blocks, 5000+10*v.Id+i))
		}
		r.right()
	}
	for _, t := range table.Tenants {
		r.do(clean(t.Id))
		r.emptied(t.Id)
	}
	r.right()
}

// limits: of the fast disk, then of the slow one, from 0 on, till the power does not go any more.
func (s scene) limits(t *testing.T, at func(fast, slow int)) {
	for _, isFast := range []bool{true, false} {
		for limit := 0; ; limit++ {
			fast, slow := limit, -1
			if !isFast {
				fast, slow = -1, limit
			}
			at(fast, slow)
			if _, cut := s.run(t, fast, slow); !cut {
				break
			}
			if limit > 1000 {
				t.Fatalf("%s does not end", s.name)
			}
		}
	}
}

func TestPowerThatGoes(t *testing.T) {
	for _, s := range scenes() {
		t.Run(s.name, func(t *testing.T) {
			t.Parallel()
			s.limits(t, func(fast, slow int) {
				r, _ := s.run(t, fast, slow)
				for _, f := range keeps(r.fast.Pending()) {
					for _, g := range keeps(r.slow.Pending()) {
						r, _ := s.run(t, fast, slow)
						r.back(r.crash(f, g))
						r.goesOn()
					}
				}
			})
		})
	}
}

// allOrNone: as keeps, but of the pending writes none, or all, or one half.
func allOrNone(pending int) [][]bool {
	all := slices.Repeat([]bool{true}, pending)
	return [][]bool{nil, all, all[:pending/2]}
}

// The power goes again while Open is under way: it changes no value, and goes on next time.
func TestPowerThatGoesInOpen(t *testing.T) {
	for _, s := range scenes() {
		t.Run(s.name, func(t *testing.T) {
			t.Parallel()
			n := 0
			s.limits(t, func(fast, slow int) {
				for _, keep := range allOrNone(100)[:2] {
					// Only some of the many states, since each has many ends of Open.
					if n++; n%80 != 0 {
						continue
					}
					openInSteps(t, allOrNone, func() *rig {
						r, _ := s.run(t, fast, slow)
						r.back(r.crash(keep, keep))
						return r
					})
				}
			})
		})
	}
}

// openInSteps: Open of a rig's disks ends at each of its writes and flushes; what they keep is the same then, whichever of the pending ones last.
func openInSteps(t *testing.T, keeps func(pending int) [][]bool, start func() *rig) {
	t.Helper()
	r := start()
	was, _, values := told(t, r.fast, r.slow, r.slots)
	for _, isFast := range []bool{true, false} {
		for limit, cut := 0, true; cut; limit++ {
			var r *rig
			r, cut = cutOpen(start(), isFast, limit)
			for _, f := range keeps(r.fast.Pending()) {
				for _, g := range keeps(r.slow.Pending()) {
					r, _ := cutOpen(start(), isFast, limit)
					r.fast.Crash(f...)
					r.slow.Crash(g...)
					now, _, left := told(t, r.fast, r.slow, r.slots)
					if !alike(now, was) || !reflect.DeepEqual(left, values) {
						t.Fatalf("Open, cut off, left %+v, %x, want %+v, %x", now, left, was, values)
					}
					r.opens()
				}
			}
		}
	}
}

// cutOpen: Open of a rig's disks, of which one has a limit; whether the power went.
func cutOpen(r *rig, isFast bool, limit int) (*rig, bool) {
	r.Helper()
	if isFast {
		r.fast.Limit(limit)
	} else {
		r.slow.Limit(limit)
	}
	c, e := cache.Open(r.fast, r.slow, r.slots)
	if e != api.OK && (e != api.ErrPower || c != nil) {
		r.Fatalf("Open: %v, %d", c, e)
	}
	return r, e == api.ErrPower
}

// Left over heads, some of versions that are needed, gaps, what is no head, and bytes in nobody's slots.
func TestPowerThatGoesInOpenOfAnyHeads(t *testing.T) {
	for seed := range 4 {
		t.Run(strconv.Itoa(seed), func(t *testing.T) {
			t.Parallel()
			openInSteps(t, keeps, func() *rig { return anyHeads(t, random(seed)) })
		})
	}
}

// A head that is pending when Open comes does not do away with an older one that lasts.
func TestPowerThatGoesInOpenOfPendingHeads(t *testing.T) {
	start := func() *rig {
		r := crafted(t)
		older := api.Head{Tenant: 2, Volume: 3, Block: 1, Slot: 1, Version: 3}
		newer := api.Head{Tenant: 2, Volume: 3, Block: 1, Slot: 0, Version: 4}
		newer = layHead(t, r.fast, newer, text(4))
		layHead(t, r.fast, older, text(3))
		head := sector(t, r.fast, headAt(0))
		write(t, r.fast, headAt(0), make([]byte, 64))
		flush(t, r.fast)
		write(t, r.fast, headAt(0), head)
		return r
	}
	for limit, cut := 0, true; cut; limit++ {
		var r *rig
		r, cut = cutOpen(start(), true, limit)
		for _, keep := range keeps(r.fast.Pending()) {
			r, _ := cutOpen(start(), true, limit)
			r.fast.Crash(keep...)
			if _, _, values := told(t, r.fast, r.slow, r.slots); values[3][1] != string(text(4)) && (!cut || values[3][1] != string(text(3))) {
				t.Fatalf("limit %d: block 1 is %x", limit, values[3][1])
			}
			r.opens()
		}
	}
}

// anyHeads: a rig with heads, many of which would count.
func anyHeads(t *testing.T, n *rand.Rand) *rig {
	t.Helper()
	r := crafted(t)
	versions := n.Perm(4)
	for slot, volume := range []int{3, 3, 3, 3, 0, 0} {
		h := api.Head{Tenant: 2, Volume: volume, Block: n.Intn(2), Slot: slot, Version: 1 + slot%2}
		if volume == 3 {
			h.Version = 4 + versions[slot] + n.Intn(8)/7
		} else {
			h.Tenant = 1
		}
		layHead(t, r.fast, h, text(slot))
	}
	for range n.Intn(3) {
		write(t, r.fast, areas+n.Intn(16), text(n.Int()))
	}
	flush(t, r.fast)
	return r
}

// What was flushed lasts with no pending write, and with any.
func TestFlush(t *testing.T) {
	r := rigOf(t, 4, tenant(2, 3), tenant(1, 1), volume(3, 2, 4), volume(5, 2, 4), volume(0, 1, 2))
	for i := range 90 {
		r.do(put([]int{3, 5, 0}[i%3], i%2, i))
		if i%7 == 6 {
			r.do(sure([]int{5, 0, 3}[i/7%3]))
			r.back(r.crash([]bool{i%2 == 1}, nil))
			r.opens()
			r.open()
		}
	}
}

// walk is a rig, and what is done of it at random.
type walk struct {
	*rig
	*rand.Rand
}

// volume: one of the table, if there is one.
func (w walk) volume() (api.Volume, bool) {
	list := w.c.Vault().Table().Volumes
	if len(list) == 0 {
		return api.Volume{}, false
	}
	return list[w.Intn(len(list))], true
}

// change: one that may be made directly; many of them are refused.
func (w walk) change() api.Rec {
	switch w.Intn(4) {
	case 0:
		return tenant(1+w.Intn(7), 1+w.Intn(3))
	case 1:
		t := w.c.Vault().Table().Tenants
		if len(t) == 0 {
			return api.Rec{}
		}
		one := t[w.Intn(len(t))]
		return quota(one.Id, min(64, one.Quota+w.Intn(2)))
	case 2:
		return volume(w.Intn(8), 1+w.Intn(7), 1+w.Intn(6))
	}
	return api.Rec{}
}

// step: anything that can be done.
func (w walk) step() api.Errno {
	v, there := w.volume()
	switch n := w.Intn(40); {
	case n < 4 || !there:
		return commit(w.change())(w.rig)
	case n < 26:
		return put(v.Id, w.Intn(v.Blocks), w.Int())(w.rig)
	case n < 34:
		return get(v.Id, w.Intn(v.Blocks))(w.rig)
	case n < 37:
		return sure(v.Id)(w.rig)
	case n < 38:
		return clean(v.Tenant)(w.rig)
	}
	w.limit()
	return api.OK
}

// limit: the power goes soon.
func (w walk) limit() {
	d := []*disk.Disk{w.fast, w.fast, w.slow}[w.Intn(3)]
	d.Limit(w.Intn(40))
}

func (w walk) anyOf(pending int) []bool {
	keep := make([]bool, pending)
	for i := range keep {
		keep[i] = w.Intn(3) > 0
	}
	return keep[:w.Intn(pending+1)]
}

// fall: the power is lost, perhaps again while the disks are opened.
func (w walk) fall() {
	w.Helper()
	tables := w.crash(w.anyOf(w.fast.Pending()), w.anyOf(w.slow.Pending()))
	w.back(tables)
	for range w.Intn(3) {
		_, _, was := told(w, w.fast, w.slow, w.slots)
		w.limit()
		if _, e := cache.Open(w.fast, w.slow, w.slots); e != api.OK && e != api.ErrPower {
			w.Fatalf("Open: %d", e)
		}
		w.fast.Crash(w.anyOf(w.fast.Pending())...)
		w.slow.Crash(w.anyOf(w.slow.Pending())...)
		w.back(tables)
		if _, _, now := told(w, w.fast, w.slow, w.slots); !reflect.DeepEqual(now, was) {
			w.Fatalf("Open, cut off, changed %x to %x", was, now)
		}
	}
	w.opens()
	w.open()
	w.right()
}

// goes: so many steps, and falls where the power goes, and elsewhere.
func (w walk) goes(steps int) {
	w.Helper()
	for range steps {
		e := w.step()
		w.sound()
		if e == api.ErrPower || w.Intn(50) == 0 {
			w.fall()
		}
	}
	w.right()
}

func TestWalks(t *testing.T) {
	for seed := range 56 {
		t.Run(strconv.Itoa(seed), func(t *testing.T) {
			t.Parallel()
			n := random(seed)
			walk{rigOf(t, []int{1, 2, 3, 4, 6, 10, 64}[seed%7]), n}.goes(300)
		})
	}
}

// R4, R5

// scribble: over all of a list, spare room included.
func scribble(b []byte) {
	b = b[:cap(b)]
	for i := range b {
		b[i] ^= 0x5a
	}
}

func TestMemoryOfTexts(t *testing.T) {
	r := rigOf(t, 2, tenant(2, 2), volume(3, 2, 3))
	room := append(text(1), text(2)...)
	was := slices.Clone(room)
	if e := r.c.Write(3, 0, room[:64]); e != api.OK || !slices.Equal(room, was) {
		t.Fatalf("Write: %d, and left %x of %x", e, room, was)
	}
	if e := r.c.Write(3, 1, room[64:]); e != api.OK || !slices.Equal(room, was) {
		t.Fatalf("Write: %d, and left %x of %x", e, room, was)
	}
	scribble(room)
	for range 3 {
		for block, want := range [][]byte{text(1), text(2), first(3, 2)} {
			a, _ := r.c.Read(3, block)
			b, e := r.c.Read(3, block)
			if e != api.OK || !slices.Equal(b, want) {
				t.Fatalf("block %d is %x, %d", block, b, e)
			}
			scribble(a)
			if !slices.Equal(b, want) {
				t.Fatalf("two answers share their memory")
			}
			scribble(b)
		}
	}
	// Of what goes to the slow disk at once, likewise.
	r = rigOf(t, 2, tenant(2, 2), volume(3, 2, 3), base(3, api.MaxTime))
	r.open()
	b := text(7)
	r.c.Write(3, 0, b)
	scribble(b)
	if b, e := r.c.Read(3, 0); e != api.OK || !slices.Equal(b, text(7)) {
		t.Errorf("%x, %d", b, e)
	}
}

func TestMemoryOfHeads(t *testing.T) {
	r := rigOf(t, 3, tenant(2, 3), volume(3, 2, 3))
	r.do(put(3, 0, 1), put(3, 1, 2))
	was := r.c.Heads()
	got, other := r.c.Heads(), r.c.Heads()
	for i := range got[:cap(got)] {
		got[:cap(got)][i] = api.Head{Tenant: 9, Slot: 9, Version: -9, Tag: "x"}
	}
	if !slices.Equal(other, was) || !slices.Equal(r.c.Heads(), was) {
		t.Errorf("%+v, %+v, want %+v", other, r.c.Heads(), was)
	}
	r.right()
	r.do(put(3, 2, 3), put(3, 0, 4), clean(2))
	if !slices.Equal(other, was) {
		t.Errorf("what was answered changes: %+v, want %+v", other, was)
	}
	if r.c.Vault() != r.c.Vault() || r.c.Vault().Generation() == 0 {
		t.Errorf("the vault is another one")
	}
}

func TestTheSameEachTime(t *testing.T) {
	run := func() everything {
		n := random(5)
		w := walk{rigOf(t, 6, tenant(2, 3), volume(3, 2, 6)), n}
		w.goes(400)
		w.do(put(3, 0, 1))
		w.fast.Limit(-1)
		return w.all()
	}
	want := run()
	for range 3 {
		if got := run(); !reflect.DeepEqual(got, want) {
			t.Fatalf("%+v, want %+v", got, want)
		}
	}
}

// What is written where and when does not hang on texts.
func TestTextsDoNotMatter(t *testing.T) {
	run := func(of func(i int) []byte, limit int) (e api.Errno, fast, slow int, heads []api.Head) {
		r := rigOf(t, 5, tenant(2, 3), tenant(4, 2), volume(3, 2, 6), volume(1, 4, 4))
		r.fast.Limit(limit)
		for i := range 40 {
			v := []int{3, 1}[i%3/2]
			if e = r.c.Write(v, i*i%4, of(i)); e != api.OK {
				break
			}
			if i%15 == 14 && r.c.Clean(2) != api.OK {
				break
			}
		}
		heads = r.c.Heads()
		for i := range heads {
			heads[i].Tag = ""
		}
		return e, r.fast.Pending(), r.slow.Pending(), heads
	}
	for limit := -1; limit < 300; limit += 7 {
		e, fast, slow, heads := run(text, limit)
		for _, of := range []func(i int) []byte{func(int) []byte { return make([]byte, 64) }, func(i int) []byte { return first(3, i*i%4) }} {
			if f, a, b, got := run(of, limit); f != e || a != fast || b != slow || !slices.Equal(got, heads) {
				t.Fatalf("limit %d: %d, %d, %d, %+v, want %d, %d, %d, %+v", limit, f, a, b, got, e, fast, slow, heads)
			}
		}
	}
}

// Caches on disks of their own have nothing to do with each other.
func TestTwoCaches(t *testing.T) {
	a := rigOf(t, 3, tenant(2, 3), volume(3, 2, 3))
	b := rigOf(t, 3, tenant(2, 2), volume(3, 2, 4))
	for i := range 20 {
		a.do(put(3, i%3, i))
		b.do(put(3, i*i%4, 100+i))
		a.right()
		b.right()
	}
	a.do(clean(2))
	a.right()
	b.right()
}

// tape is a source of numbers that are written on it, and 0 behind its end.
type tape []byte

func (p *tape) Seed(int64) {}

func (p *tape) Int63() int64 {
	n := int64(0)
	for range 2 {
		if len(*p) > 0 {
			n, *p = n<<8|int64((*p)[0]), (*p)[1:]
		}
	}
	return n<<40 | n<<8
}

func FuzzCachesAgree(f *testing.F) {
	for seed := range 8 {
		b := make([]byte, 400)
		random(seed).Read(b)
		f.Add(b)
	}
	f.Fuzz(func(t *testing.T, b []byte) {
		p := tape(b[:min(len(b), 600)])
		n := rand.New(&p)
		w := walk{rigOf(t, 1+n.Intn(8)), n}
		for len(p) > 0 {
			w.goes(10)
		}
	})
}
