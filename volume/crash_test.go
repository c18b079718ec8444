package volume_test

import (
	"maps"
	"math/rand"
	"reflect"
	"runtime/debug"
	"slices"
	"strconv"
	"testing"

	"stowage/api"
	"stowage/disk"
	"stowage/vault"
	"stowage/volume"
)

// TestMain: so many disks are made that it is worth while to look less often for what can be forgotten.
func TestMain(m *testing.M) {
	debug.SetGCPercent(400)
	m.Run()
}

// P20.3

// keeps: which of the pending writes last: of few all sets, of more none, all, the first or the last alone, all but these, one half, and some random ones.
func keeps(pending int) [][]bool {
	var list [][]bool
	add := func(lasts func(i int) bool) {
		keep := make([]bool, pending)
		for i := range keep {
			keep[i] = lasts(i)
		}
		list = append(list, keep)
	}
	if pending <= 3 {
		for set := range 1 << pending {
			add(func(i int) bool { return set>>i&1 == 1 })
		}
		return list
	}
	n := random(pending)
	add(func(int) bool { return false })
	add(func(int) bool { return true })
	add(func(i int) bool { return i == 0 })
	add(func(i int) bool { return i > 0 })
	add(func(i int) bool { return i == pending-1 })
	add(func(i int) bool { return i < pending-1 })
	add(func(i int) bool { return i < pending/2 })
	add(func(int) bool { return n.Intn(2) == 0 })
	add(func(int) bool { return n.Intn(2) == 0 })
	return list
}

// scene is what is done of a rig; the power goes in its last steps.
type scene struct {
	name  string
	slots int
	ahead []step // with power
	steps []step
}

// puts: writes of a volume's blocks.
func puts(id int, blocks ...int) []step {
	var list []step
	for i, block := range blocks {
		list = append(list, put(id, block, 1000*id+100*block+i+1))
	}
	return list
}

func join(lists ...[]step) []step { return slices.Concat(lists...) }

func scenes() []scene {
	one := []step{tenant(2, 3), newVolume(3, 2, 4)}
	two := []step{tenant(2, 3), tenant(5, 2), newVolume(3, 2, 4), newVolume(1, 5, 3), newVolume(0, 2, 2)}
	filled := join(two, puts(3, 0, 2, 3), puts(1, 0, 1, 2), puts(0, 1, 0))
	steep, flat := api.Curve{0, 9, 18, 27, 36}, api.Curve{0}
	return []scene{
		{"made", 4, nil, join(one, puts(3, 1), []step{tenant(5, 1), newVolume(0, 5, 2)}, puts(0, 1, 1), []step{newVolume(7, 2, 1)}, puts(7, 0))},
		{"fewer", 4, join(one, puts(3, 0, 3, 0, 2)), []step{resize(3, 2)}},
		{"fewer, not flushed", 9, join(two, puts(3, 3, 0, 3)), join(puts(3, 1, 2), []step{resize(3, 3)}, puts(3, 2, 0), []step{resize(3, 1)})},
		{"fewer, flushed", 9, join(filled, []step{sure(3)}), join([]step{put(3, 0, 5), resize(3, 1), sure(3)}, puts(3, 0, 0))},
		{"none left", 6, filled, []step{resize(3, 0), resize(3, 2), put(3, 1, 7)}},
		{"more", 6, filled, []step{resize(3, 6), put(3, 5, 7), resize(0, 3), resize(3, 3), resize(3, 5), put(3, 4, 8)}},
		{"as many", 6, filled, []step{put(3, 3, 4), resize(3, 4), put(3, 3, 5)}},
		{"dropped", 6, filled, []step{put(3, 0, 9), drop(3), put(0, 1, 8), newVolume(3, 5, 4), put(3, 1, 5), drop(0)}},
		{"quota", 6, filled, []step{put(3, 1, 4), setQuota(2, 1), put(3, 2, 5), setQuota(2, 4), put(0, 0, 6), setQuota(2, 3)}},
		{"quota of more", 8, filled, []step{setQuota(2, 5), put(3, 1, 1), put(3, 3, 2), put(0, 0, 3), setQuota(5, 1), setQuota(2, 2)}},
		{"rebalanced", 8, join(filled, []step{tenant(1, 2), newVolume(4, 1, 2)}, puts(4, 0, 1)), []step{put(3, 0, 9), rebalance([]int{2, 5, 1}, flat, flat, steep), put(4, 0, 8), rebalance([]int{1, 5}, flat, steep)}},
		{"deleted", 6, filled, []step{put(3, 1, 9), remove(2)}},
		{"deleted, both", 6, filled, []step{put(1, 1, 9), remove(5), put(3, 1, 9), remove(2)}},
		{"deleted, and made", 6, join(filled, []step{sure(1)}), []step{remove(2), anyTenant(api.Tenant{Id: 2, Quota: 2, Burst: 1, Key: keyOf(8)}), newVolume(3, 2, 3), put(3, 0, 4), put(3, 2, 5), remove(2)}},
		{"deleted without anything", 3, []step{tenant(2, 1), tenant(4, 1), newVolume(5, 4, 1), newVolume(2, 4, 0)}, []step{remove(2), put(5, 0, 1), remove(4)}},
		{"cleaned", 6, filled, []step{clean(2), resize(3, 2), clean(5), setQuota(5, 1), drop(1)}},
	}
}

// run: steps up to where the power goes, or all; what there may be behind a crash then.
func (r *rig) run(name string, list ...step) (perhaps []world, cut bool) {
	r.Helper()
	for i, s := range list {
		switch e := r.try(s); e {
		case api.OK:
			if s.kind == whole && !r.hasty {
				r.lasts(s.name)
			}
		case api.ErrPower:
			return r.perhaps(s), true
		default:
			r.Fatalf("%s: step %d, %s: %d", name, i, s.name, e)
		}
	}
	return []world{r.world}, false
}

// perhaps: what there may be behind a crash, if a step was cut off.
func (r *rig) perhaps(s step) []world {
	next := r.world.clone()
	if s.kind == nothing || s.want(r.world) != api.OK {
		return []world{r.world}
	}
	s.then(next)
	if s.kind == write1 {
		return []world{next}
	}
	return []world{r.world, next}
}

// hasty: a rig that is made again and again.
func hasty(t testing.TB, slots int, list ...step) *rig {
	t.Helper()
	r := &rig{TB: t, fast: made(t, areas+2*slots), slow: made(t, allSlow), hasty: true, world: world{slots, map[int]api.Tenant{}, map[int]vol{}}}
	r.open()
	r.do(list...)
	return r
}

// cut: a scene whose power goes.
func (s scene) cut(t testing.TB, fastLimit, slowLimit int) (r *rig, perhaps []world, cut bool) {
	t.Helper()
	r = hasty(t, s.slots, s.ahead...)
	r.fast.Limit(fastLimit)
	r.slow.Limit(slowLimit)
	perhaps, cut = r.run(s.name, s.steps...)
	return r, perhaps, cut
}

// nobodys: slots that nobody owns by the table that a fast disk keeps have bytes 0, lasting.
func (r *rig) nobodys() {
	r.Helper()
	v, e := vault.Open(r.kept(r.fast), r.slots)
	if e != api.OK {
		r.Fatalf("vault.Open: %d", e)
	}
	for slot, owner := range v.Table().Owners {
		if owner == 0 && lasting(r, r.fast, headAt(slot))+lasting(r, r.fast, sealedAt(slot)) != zeros+zeros {
			r.Fatalf("nobody's slot %d has other bytes than 0", slot)
		}
	}
}

// crash: of both disks.
func (r *rig) crash(fast, slow []bool) {
	r.Helper()
	r.nobodys()
	r.fast.Crash(fast...)
	r.slow.Crash(slow...)
	r.nobodys()
}

// goesOn: behind a crash all is as it should be, and goes on.
func (r *rig) goesOn() {
	r.Helper()
	r.right()
	r.emptied("Open", r.k.Cache().Vault().Table())
	for id := range 8 {
		v, there := r.volumes[id]
		if !there {
			continue
		}
		if len(v.first) > 0 {
			r.do(put(id, 0, 7001), put(id, len(v.first)-1, 7002))
		}
		r.do(resize(id, min(32, len(v.first)+3)))
		r.right()
	}
	for id := 1; id < 8; id += 2 {
		if there(r.tenants, id) {
			r.do(setQuota(id, 1), remove(id))
		}
	}
	r.right()
}

// limits: of the fast disk, then of the slow one, from 0 on, till the power does not go any more.
func (s scene) limits(t *testing.T, at func(fast, slow int)) {
	t.Helper()
	for _, isFast := range []bool{true, false} {
		for limit, cut := 0, true; cut; limit++ {
			fast, slow := limit, -1
			if !isFast {
				fast, slow = -1, limit
			}
			at(fast, slow)
			if _, _, cut = s.cut(t, fast, slow); limit > 1000 {
				t.Fatalf("%s does not end", s.name)
			}
		}
	}
}

// Wherever the power goes, and whichever writes last: what was cut off is done, all of it, or not at all.
func TestPowerThatGoes(t *testing.T) {
	for _, s := range scenes() {
		t.Run(s.name, func(t *testing.T) {
			t.Parallel()
			done, n := map[int]int{}, 0
			s.limits(t, func(fast, slow int) {
				r, _, _ := s.cut(t, fast, slow)
				for _, f := range keeps(r.fast.Pending()) {
					for _, g := range keeps(r.slow.Pending()) {
						r, perhaps, _ := s.cut(t, fast, slow)
						r.crash(f, g)
						done[r.back(perhaps...)]++
						r.right()
						if n++; n%4 == 0 {
							r.goesOn()
						}
					}
				}
			})
			// A volume with as many blocks as it had is as it was.
			if done[0] == 0 || done[1] == 0 && s.name != "as many" {
				t.Errorf("%d times it was not done, %d times it was", done[0], done[1])
			}
		})
	}
}

// noneOrAll: of the pending writes none last, or all, or one half.
func noneOrAll(pending int) [][]bool {
	all := slices.Repeat([]bool{true}, pending)
	return [][]bool{nil, all, all[:pending/2]}
}

// cutOpen: Open of a rig's disks, of which one has a limit; whether the power went.
func (r *rig) cutOpen(fastLimit, slowLimit int) bool {
	r.Helper()
	r.fast.Limit(fastLimit)
	r.slow.Limit(slowLimit)
	k, e := volume.Open(r.fast, r.slow, r.slots)
	if e != api.OK && (e != api.ErrPower || k != nil) {
		r.Fatalf("Open: %v, %d", k, e)
	}
	return e == api.ErrPower
}

// openInSteps: Open of a rig's disks ends at writes and flushes of it; what they keep is one of these worlds then, whichever of the pending ones last.
func openInSteps(t *testing.T, start func() (*rig, []world)) {
	t.Helper()
	for _, isFast := range []bool{true, false} {
		for limit, cut := 0, true; cut; limit++ {
			// All blank sectors of the slow disk are alike.
			if !isFast && limit > 8 && limit%90 != 0 {
				continue
			}
			fast, slow := limit, -1
			if !isFast {
				fast, slow = -1, limit
			}
			r, _ := start()
			cut = r.cutOpen(fast, slow)
			for _, f := range noneOrAll(r.fast.Pending()) {
				for _, g := range noneOrAll(r.slow.Pending()) {
					r, perhaps := start()
					r.cutOpen(fast, slow)
					r.crash(f, g)
					r.back(perhaps...)
					r.right()
					r.emptied("Open", r.k.Cache().Vault().Table())
				}
			}
		}
	}
}

// The power goes again while Open is under way.
func TestPowerThatGoesInOpen(t *testing.T) {
	for _, s := range scenes() {
		t.Run(s.name, func(t *testing.T) {
			t.Parallel()
			n := 0
			s.limits(t, func(fast, slow int) {
				// Only some of the many states, since each has many ends of Open.
				if n++; n%80 != 20 {
					return
				}
				for _, keep := range noneOrAll(100)[:2] {
					openInSteps(t, func() (*rig, []world) {
						r, perhaps, _ := s.cut(t, fast, slow)
						r.crash(keep, keep)
						return r, perhaps
					})
				}
			})
		})
	}
}

func TestPowerThatGoesWhileDeletionsAreFinished(t *testing.T) {
	for i, dying := range [][]int{{1}, {2, 5}, {1, 2, 5}} {
		t.Run(strconv.Itoa(i), func(t *testing.T) {
			t.Parallel()
			openInSteps(t, func() (*rig, []world) {
				r := crafted(t, dying...)
				return r, []world{r.world}
			})
		})
	}
}

// Where only the slow disk's power goes, the cache goes on, as far as it can without it: what was flushed then lasts too.
func TestTheCacheGoesOn(t *testing.T) {
	for _, s := range scenes() {
		t.Run(s.name, func(t *testing.T) {
			t.Parallel()
			for limit, cut := 0, true; cut; limit++ {
				var r *rig
				var perhaps []world
				r, perhaps, cut = s.cut(t, -1, limit)
				// With the fast disk's power what was done is known; a Delete that was begun is done then.
				at := r.k.Cache().Vault().Table()
				if i := slices.IndexFunc(perhaps, func(w world) bool { return w.is(at) }); i >= 0 {
					r.world = perhaps[i]
				} else {
					r.world = perhaps[1]
				}
				n := random(limit)
				for e, i := api.OK, 0; e != api.ErrPower && i < 40 && len(r.volumes) > 0 && r.is(at); i++ {
					next := put(n.Intn(8), n.Intn(4), 9000+i)
					if n.Intn(4) == 0 {
						next = sure(n.Intn(8))
					}
					if e = r.try(next); e == api.ErrPower {
						r.world = r.perhaps(next)[0]
					}
					at = r.k.Cache().Vault().Table()
				}
				r.crash(nil, nil)
				r.back(r.world)
				r.goesOn()
			}
		})
	}
}

// P4, P20.3: texts that a tenant wrote make no difference.

// seen is all that there is to be seen of a rig, but for tenant 2's values.
type seen struct {
	errors     []api.Errno
	table      api.Table
	heads      []api.Head
	values     map[int][]string
	fast, slow int
}

func (r *rig) seen(errors []api.Errno) seen {
	r.Helper()
	s := seen{errors: slices.Clone(errors), table: r.k.Cache().Vault().Table(), heads: r.k.Cache().Heads(), fast: r.fast.Pending(), slow: r.slow.Pending()}
	for i := range s.heads {
		if s.heads[i].Tenant == 2 {
			s.heads[i].Tag = ""
		}
	}
	if _, e := r.fast.Read(0); e != api.OK {
		return s
	}
	if _, e := r.slow.Read(0); e != api.OK {
		return s
	}
	_, s.values = told(r, r.fast, r.slow, r.slots)
	for _, v := range s.table.Volumes {
		if v.Tenant == 2 {
			delete(s.values, v.Id)
		}
	}
	return s
}

// story: steps in which tenant 2 writes such texts, with power that goes twice; all that is seen of it, and the disks at its end.
func story(t *testing.T, of func(i int) int, fastLimit, slowLimit int, keep []bool, openLimit int) ([]seen, [2][]string, bool) {
	t.Helper()
	r := rigOf(t, 7, tenant(2, 4), tenant(5, 2), newVolume(3, 2, 4), newVolume(1, 5, 3), newVolume(0, 2, 3))
	n := 0
	mine := func(id, block int) step {
		n++
		return put(id, block, of(n))
	}
	for _, block := range []int{0, 1, 2, 3, 0} {
		r.do(mine(3, block), put(1, block%3, 50+block), mine(0, block%3))
	}
	r.fast.Limit(fastLimit)
	r.slow.Limit(slowLimit)
	var errors []api.Errno
	var list []seen
	for _, s := range []step{mine(3, 1), put(1, 1, 7), resize(3, 2), put(1, 0, 8), mine(0, 2), setQuota(2, 2), mine(0, 1), drop(3), put(1, 2, 9), newVolume(3, 2, 2), mine(3, 1), resize(0, 1), mine(0, 0), put(1, 1, 3), remove(2), put(1, 0, 5)} {
		e := s.call(r.k)
		errors = append(errors, e)
		list = append(list, r.seen(errors))
		if e == api.ErrPower {
			break
		}
	}
	cut := errors[len(errors)-1] == api.ErrPower
	r.fast.Crash(keep...)
	r.slow.Crash(keep...)
	r.slow.Limit(openLimit)
	if _, e := volume.Open(r.fast, r.slow, r.slots); e == api.ErrPower {
		errors = append(errors, e)
	}
	r.slow.Crash(keep...)
	r.open()
	list = append(list, r.seen(errors))
	if at := r.k.Cache().Vault().Table(); len(at.Tenants) == 2 {
		r.k.Delete(2)
	}
	return list, [2][]string{sectors(t, r.fast, areas+14), sectors(t, r.slow, allSlow)}, cut
}

func TestTextsDoNotMatter(t *testing.T) {
	for _, isFast := range []bool{true, false} {
		for i, lasts := range []func(n int) bool{func(n int) bool { return n == 0 }, func(n int) bool { return n == 1 || n == 2 }, func(int) bool { return true }} {
			keep := make([]bool, 90)
			for n := range keep {
				keep[n] = lasts(n)
			}
			t.Run(strconv.FormatBool(isFast)+strconv.Itoa(i), func(t *testing.T) {
				t.Parallel()
				for limit, cut := 0, true; cut; limit++ {
					fast, slow := limit, -1
					if !isFast {
						fast, slow = -1, limit
					}
					cut = sameStories(t, fast, slow, keep, []int{-1, 7, 200, 249}[(i+limit)%4])
				}
			})
		}
	}
}

// sameStories: whatever the texts, all else is the same; whether the power went.
func sameStories(t *testing.T, fast, slow int, keep []bool, open int) bool {
	t.Helper()
	want, disks, cut := story(t, func(i int) int { return i }, fast, slow, keep, open)
	for j, of := range []func(i int) int{func(int) int { return 0 }, func(i int) int { return i % 2 }, func(i int) int { return i * i * 1000 }} {
		got, other, _ := story(t, of, fast, slow, keep, open)
		if !reflect.DeepEqual(got, want) {
			t.Fatalf("limits %d, %d, texts %d: %+v, want %+v", fast, slow, j, got, want)
		}
		if !reflect.DeepEqual(other, disks) {
			t.Fatalf("limits %d, %d, texts %d: other disks behind Delete", fast, slow, j)
		}
	}
	return cut
}

// R5: the same calls make the same.
func TestTheSameEachTime(t *testing.T) {
	run := func() everything {
		w := walkOf(t, 6, random(5))
		w.goes(200)
		return w.all()
	}
	want := run()
	for range 3 {
		if got := run(); !reflect.DeepEqual(got, want) {
			t.Fatalf("%+v, want %+v", got, want)
		}
	}
}

// walk is a rig, and what is done of it at random.
type walk struct {
	*rig
	*rand.Rand
}

// walkOf: one that begins with some tenants and volumes.
func walkOf(t testing.TB, slots int, n *rand.Rand) walk {
	t.Helper()
	w := walk{rigOf(t, slots, tenant(2, 1+slots/2), newVolume(3, 2, 5), newVolume(0, 2, 3)), n}
	if slots > 2 {
		w.do(tenant(5, 1), newVolume(1, 5, 4))
	}
	return w
}

// curves: of so many tenants, a few of them not sound.
func (w walk) curves(n int) []api.Curve {
	var list []api.Curve
	for range n {
		c := api.Curve{w.Intn(3)}
		for range w.Intn(6) {
			c = append(c, c[len(c)-1]+w.Intn(9)-w.Intn(12)/11)
		}
		list = append(list, c)
	}
	return list
}

// next: anything that can be done.
func (w walk) next() step {
	id, of := w.Intn(8), 1+w.Intn(7)
	if list := slices.Sorted(maps.Keys(w.tenants)); len(list) > 0 && w.Intn(3) > 0 {
		of = list[w.Intn(len(list))]
	}
	if list := slices.Sorted(maps.Keys(w.volumes)); len(list) > 0 && w.Intn(9) > 0 {
		id = list[w.Intn(len(list))]
	}
	switch n := w.Intn(70); {
	case n < 4:
		return tenant(1+w.Intn(7), 1+w.Intn(4))
	case n < 9:
		return newVolume(w.Intn(8), of, w.Intn(7))
	case n < 11:
		return setQuota(of, 1+w.Intn(5))
	case n < 13:
		ids := w.Perm(8)[:1+w.Intn(3)]
		ids[0] = of
		return rebalance(ids, w.curves(len(ids))...)
	case n < 17:
		return resize(id, w.Intn(8))
	case n < 18:
		return drop(id)
	case n < 19:
		return remove(of)
	case n < 21:
		return clean(of)
	case n < 26:
		return sure(id)
	}
	return put(id, w.Intn(len(w.volumes[id].first)+1), w.Int())
}

// limit: the power goes soon.
func (w walk) limit() {
	d := []*disk.Disk{w.fast, w.fast, w.slow}[w.Intn(3)]
	d.Limit(w.Intn(60))
}

func (w walk) anyOf(pending int) []bool {
	keep := make([]bool, pending)
	for i := range keep {
		keep[i] = w.Intn(3) > 0
	}
	return keep[:w.Intn(pending+1)]
}

// fall: the power is lost, perhaps again while the disks are opened.
func (w walk) fall(perhaps ...world) {
	w.Helper()
	w.crash(w.anyOf(w.fast.Pending()), w.anyOf(w.slow.Pending()))
	for range w.Intn(3) {
		w.limit()
		if _, e := volume.Open(w.fast, w.slow, w.slots); e != api.OK && e != api.ErrPower {
			w.Fatalf("Open: %d", e)
		}
		w.crash(w.anyOf(w.fast.Pending()), w.anyOf(w.slow.Pending()))
	}
	w.back(perhaps...)
	w.right()
	w.emptied("Open", w.k.Cache().Vault().Table())
}

// goes: so many steps, and falls where the power goes, and elsewhere.
func (w walk) goes(steps int) {
	w.Helper()
	for range steps {
		s := w.next()
		if w.Intn(25) == 0 || s.kind == whole && w.Intn(4) == 0 {
			w.limit()
		}
		switch e := w.try(s); {
		case e == api.ErrPower:
			w.fall(w.perhaps(s)...)
		case e == api.OK && s.kind == whole:
			w.lasts(s.name)
		case w.Intn(60) == 0:
			w.fall(w.world)
		}
	}
	w.fall(w.world)
}

func TestWalks(t *testing.T) {
	for seed := range 48 {
		t.Run(strconv.Itoa(seed), func(t *testing.T) {
			t.Parallel()
			walkOf(t, []int{1, 2, 3, 4, 6, 9, 14, 64}[seed%8], random(seed)).goes(300)
		})
	}
}

// tape is a source of numbers that are written on it, and 0 behind its end.
type tape []byte

func (p *tape) Seed(int64) {}

func (p *tape) Int63() int64 {
	n := int64(0)
	for range 2 {
		if len(*p) > 0 {
			n, *p = n<<8|int64((*p)[0]), (*p)[1:]
		}
	}
	return n<<40 | n<<8
}

func FuzzKeepersAgree(f *testing.F) {
	for seed := range 8 {
		b := make([]byte, 400)
		random(seed).Read(b)
		f.Add(b)
	}
	f.Fuzz(func(t *testing.T, b []byte) {
		p := tape(b[:min(len(b), 600)])
		w := walkOf(t, 1+len(b)%9, rand.New(&p))
		for len(p) > 0 {
			w.goes(10)
		}
	})
}
