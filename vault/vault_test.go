package vault_test

import (
	"bytes"
	"math"
	"math/rand"
	"reflect"
	"slices"
	"strings"
	"testing"

	"stowage/api"
	"stowage/disk"
	"stowage/line"
	"stowage/table"
	"stowage/vault"
)

const someKey = "0123456789abcdef"

// ends: the greatest generation.
const ends = 1<<31 - 1

// both: the sectors of the two areas.
const both = 2 * api.AreaLines

// random: the same in each run with one seed.
func random(seed int) *rand.Rand { return rand.New(rand.NewSource(int64(seed))) }

func tenant(id, quota int) api.Rec {
	return api.Rec{Kind: api.RecTenant, A: id, B: quota, C: 65536, D: 2, Key: someKey}
}
func quota(id, n int) api.Rec { return api.Rec{Kind: api.RecQuota, A: id, B: n} }
func dying(id int) api.Rec    { return api.Rec{Kind: api.RecDying, A: id} }
func gone(id int) api.Rec     { return api.Rec{Kind: api.RecGone, A: id} }
func volume(id, of, blocks int) api.Rec {
	return api.Rec{Kind: api.RecVolume, A: id, B: of, C: blocks}
}
func size(id, blocks int) api.Rec { return api.Rec{Kind: api.RecSize, A: id, B: blocks} }
func drop(id int) api.Rec         { return api.Rec{Kind: api.RecDrop, A: id} }
func base(id, n int) api.Rec      { return api.Rec{Kind: api.RecBase, A: id, B: n} }
func own(slot, of int) api.Rec    { return api.Rec{Kind: api.RecOwn, A: slot, B: of} }

// some: changes of an empty table with 8 slots, or more.
func some() []api.Rec {
	return []api.Rec{tenant(1, 3), tenant(4, 2), volume(2, 1, 9), own(0, 1), own(5, 4), base(2, 7)}
}

// fullest: a table whose image is as long as one can be, but for owners that no quota lets.
func fullest() []api.Rec {
	var list []api.Rec
	for id := 1; id <= api.MaxTenants; id++ {
		list = append(list, tenant(id, 9))
	}
	for id := range api.MaxVolumes {
		list = append(list, volume(id, 1+id%7, 32), base(id, api.MaxTime-id))
	}
	for slot := range 63 {
		list = append(list, own(slot, 1+slot%7))
	}
	for id := 1; id <= api.MaxTenants; id++ {
		list = append(list, dying(id))
	}
	return list
}

func made(t *testing.T, sectors int) *disk.Disk {
	t.Helper()
	d, e := disk.New(sectors)
	if e != api.OK {
		t.Fatalf("disk.New(%d): %d", sectors, e)
	}
	return d
}

func opened(t *testing.T, d *disk.Disk, slots int) *vault.Vault {
	t.Helper()
	v, e := vault.Open(d, slots)
	if v == nil || e != api.OK {
		t.Fatalf("Open: %v, %d", v, e)
	}
	return v
}

func commit(t *testing.T, v *vault.Vault, list ...api.Rec) {
	t.Helper()
	refused(t, v, api.OK, list...)
}

func refused(t *testing.T, v *vault.Vault, want api.Errno, list ...api.Rec) {
	t.Helper()
	if e := v.Commit(list...); e != want {
		t.Fatalf("Commit of %d changes: %d, want %d", len(list), e, want)
	}
}

// behind: an empty table behind changes.
func behind(t *testing.T, slots int, list ...api.Rec) api.Table {
	t.Helper()
	empty, _ := table.New(slots)
	return changed(t, empty, list...)
}

func changed(t *testing.T, at api.Table, list ...api.Rec) api.Table {
	t.Helper()
	at, e := table.Apply(at, list...)
	if e != api.OK {
		t.Fatalf("Apply: %d", e)
	}
	return at
}

// same: are two tables? Nil and empty lists are.
func same(a, b api.Table) bool {
	return slices.Equal(a.Tenants, b.Tenants) && slices.Equal(a.Volumes, b.Volumes) && slices.Equal(a.Owners, b.Owners)
}

// has: what a vault answers.
func has(t *testing.T, v *vault.Vault, want api.Table, generation int) {
	t.Helper()
	if got := v.Table(); !same(got, want) {
		t.Fatalf("Table() = %+v, want %+v", got, want)
	}
	if got := v.Generation(); got != generation {
		t.Fatalf("Generation() = %d, want %d", got, generation)
	}
}

// put: a line at a sector.
func put(t *testing.T, d *disk.Disk, sector int, l api.Line) {
	t.Helper()
	b, e := line.Encode(l)
	if e != api.OK {
		t.Fatalf("Encode(%+v): %d", l, e)
	}
	write(t, d, sector, b)
}

func write(t *testing.T, d *disk.Disk, sector int, b []byte) {
	t.Helper()
	if e := d.Write(sector, b); e != api.OK {
		t.Fatalf("Write(%d): %d", sector, e)
	}
}

func flush(t *testing.T, d *disk.Disk) {
	t.Helper()
	if e := d.Flush(); e != api.OK {
		t.Fatalf("Flush: %d", e)
	}
}

// lay: transactions from an area's first sector on; how many lines they are.
func lay(t *testing.T, d *disk.Disk, area, generation int, whole ...[]api.Rec) int {
	t.Helper()
	seq := 0
	for _, list := range whole {
		for i, r := range list {
			put(t, d, area*api.AreaLines+seq, api.Line{Generation: generation, Seq: seq, Last: i == len(list)-1, Rec: r})
			seq++
		}
	}
	flush(t, d)
	return seq
}

// loose: lines of a generation at all places from one on, each a transaction by itself, which count if one is taken for what stands ahead of them.
func loose(t *testing.T, d *disk.Disk, area, generation, from int, r api.Rec) {
	t.Helper()
	for seq := from; seq < api.AreaLines; seq++ {
		put(t, d, area*api.AreaLines+seq, api.Line{Generation: generation, Seq: seq, Last: true, Rec: r})
	}
	flush(t, d)
}

// paper: all that a disk shows.
type paper struct {
	now, lasting []string
	pending      int
}

func copied(t *testing.T, d *disk.Disk, sectors int) paper {
	t.Helper()
	p := paper{pending: d.Pending()}
	for n := range sectors {
		now, e := d.Read(n)
		lasting, f := d.Lasting(n)
		if e != api.OK || f != api.OK {
			t.Fatalf("sector %d: %d, %d", n, e, f)
		}
		p.now, p.lasting = append(p.now, string(now)), append(p.lasting, string(lasting))
	}
	return p
}

// told: what Open says of a disk, by the document's words alone.
func told(t *testing.T, d *disk.Disk, slots int) (api.Table, int, api.Errno) {
	t.Helper()
	found, greatest := []api.Rec(nil), -1
	for area := 0; area < both; area += api.AreaLines {
		var sectors [][]byte
		for n := area; n < area+api.AreaLines; n++ {
			b, e := d.Read(n)
			if e != api.OK {
				return api.Table{}, 0, e
			}
			sectors = append(sectors, b)
		}
		first, e := line.Decode(sectors[0])
		if e != api.OK || first.Generation <= greatest {
			continue
		}
		if whole := line.Replay(sectors, first.Generation); len(whole) > 0 {
			found, greatest = slices.Concat(whole...), first.Generation
		}
	}
	empty, e := table.New(slots)
	if e != api.OK || greatest < 0 {
		return empty, 0, e
	}
	at, e := table.Apply(empty, found...)
	if e != api.OK {
		return api.Table{}, 0, api.ErrForm
	}
	return at, greatest, api.OK
}

// P17.1

func notOpened(t *testing.T, d *disk.Disk, slots int, want api.Errno) {
	t.Helper()
	if v, e := vault.Open(d, slots); v != nil || e != want {
		t.Errorf("Open with %d slots: %v, %d, want %d", slots, v, e, want)
	}
}

func wrongSlots() []int {
	return []int{0, -1, -8, 65, 66, 128, 256, 257, 1<<8 + 8, 1<<16 + 8, 1<<32 + 8, math.MaxInt, math.MinInt}
}

func dark(t *testing.T, d *disk.Disk) {
	t.Helper()
	d.Limit(0)
	if e := d.Flush(); e != api.ErrPower {
		t.Fatalf("the power is there: %d", e)
	}
}

func TestOpenOfWrongThings(t *testing.T) {
	notOpened(t, nil, 8, api.ErrArg)
	notOpened(t, nil, 0, api.ErrArg)
	notOpened(t, &disk.Disk{}, 8, api.ErrArg)
	for _, sectors := range []int{1, 2, 64, api.AreaLines, api.AreaLines + 1, both - 1} {
		d := made(t, sectors)
		notOpened(t, d, 8, api.ErrArg)
		dark(t, d)
		notOpened(t, d, 8, api.ErrArg)
	}
	for _, sectors := range []int{both, both + 1, api.MaxSectors} {
		d := made(t, sectors)
		for _, slots := range wrongSlots() {
			notOpened(t, d, slots, api.ErrArg)
		}
		for _, slots := range []int{1, 2, 63, 64} {
			v := opened(t, d, slots)
			has(t, v, api.Table{Owners: make([]int, slots)}, 0)
		}
		dark(t, d)
		for _, slots := range wrongSlots() {
			notOpened(t, d, slots, api.ErrArg)
		}
		notOpened(t, d, 8, api.ErrPower)
		d.Crash()
		has(t, opened(t, d, 8), api.Table{Owners: make([]int, 8)}, 0)
	}
}

// What can't be made can't be told without power either.
func TestOpenWithoutPower(t *testing.T) {
	d := made(t, both)
	lay(t, d, 0, 3, []api.Rec{dying(1)})
	notOpened(t, d, 8, api.ErrForm)
	dark(t, d)
	notOpened(t, d, 8, api.ErrPower)
	d.Crash()
	notOpened(t, d, 8, api.ErrForm)
	notOpened(t, d, 0, api.ErrArg)
}

// Nothing is held by an area that begins with no line, or whose first transaction has no end.
func TestNothingHeld(t *testing.T) {
	for name, spoil := range map[string]func(d *disk.Disk){
		"blank": func(d *disk.Disk) {},
		"bytes": func(d *disk.Disk) {
			write(t, d, 0, bytes.Repeat([]byte("SL"), 32))
			write(t, d, api.AreaLines, bytes.Repeat([]byte{255}, 64))
		},
		"no end": func(d *disk.Disk) {
			lay(t, d, 1, 9, some())
			put(t, d, api.AreaLines+5, api.Line{Generation: 9, Seq: 5, Rec: base(2, 7)})
		},
		"no end in an area": func(d *disk.Disk) {
			for seq := range api.AreaLines {
				put(t, d, seq, api.Line{Generation: 9, Seq: seq})
			}
			put(t, d, api.AreaLines, api.Line{Generation: 9, Seq: api.AreaLines, Last: true})
		},
		"no beginning": func(d *disk.Disk) {
			lay(t, d, 0, 9, some(), some())
			write(t, d, 0, make([]byte, 64))
			loose(t, d, 1, 0, 1, api.Rec{})
		},
		"a wrong place": func(d *disk.Disk) { put(t, d, 0, api.Line{Generation: 1, Seq: 1, Last: true}) },
		"a spoilt line": func(d *disk.Disk) {
			lay(t, d, 0, 9, some())
			b, _ := d.Read(3)
			b[63]++
			write(t, d, 3, b)
		},
		"another generation": func(d *disk.Disk) {
			lay(t, d, 0, 9, some())
			put(t, d, 2, api.Line{Generation: 8, Seq: 2, Rec: volume(2, 1, 9)})
		},
		"behind the areas": func(d *disk.Disk) { lay(t, d, 2, 9, some()) },
	} {
		d := made(t, both+api.AreaLines)
		spoil(d)
		ahead := copied(t, d, both)
		v, e := vault.Open(d, 8)
		if e != api.OK || !same(v.Table(), api.Table{Owners: make([]int, 8)}) || v.Generation() != 0 {
			t.Errorf("%s: %+v, %d", name, v, e)
			continue
		}
		if !reflect.DeepEqual(copied(t, d, both), ahead) {
			t.Errorf("%s: Open wrote", name)
		}
		commit(t, v, some()...)
		has(t, v, behind(t, 8, some()...), v.Generation())
		d.Crash()
		has(t, opened(t, d, 8), behind(t, 8, some()...), v.Generation())
	}
}

// The area of the greater generation counts, wherever it stands; of two with the same one the first.
func TestWhichAreaCounts(t *testing.T) {
	of := func(id int) []api.Rec { return []api.Rec{tenant(id, id)} }
	for _, c := range []struct{ first, second, id, generation int }{
		{0, -1, 1, 0}, {-1, 0, 2, 0}, {0, 0, 1, 0}, {0, 1, 2, 1}, {1, 0, 1, 1}, {1, 2, 2, 2}, {2, 1, 1, 2},
		{5, -1, 1, 5}, {-1, 5, 2, 5}, {7, 7, 1, 7}, {ends, -1, 1, ends}, {-1, ends, 2, ends}, {ends, ends, 1, ends},
		{ends, ends - 1, 1, ends}, {ends - 1, ends, 2, ends}, {ends, 0, 1, ends}, {0, ends, 2, ends}, {1, 256, 2, 256}, {1 << 16, 255, 1, 1 << 16},
	} {
		d := made(t, both)
		for area, generation := range []int{c.first, c.second} {
			if generation >= 0 {
				lay(t, d, area, generation, of(area+1))
			}
		}
		d.Limit(0)
		v := opened(t, d, 8)
		has(t, v, behind(t, 8, of(c.id)...), c.generation)
		d.Limit(-1)
		commit(t, v, tenant(7, 2))
		want := behind(t, 8, of(c.id)[0], tenant(7, 2))
		has(t, v, want, v.Generation())
		d.Crash()
		has(t, opened(t, d, 8), want, v.Generation())
	}
}

// An area that begins with a line, but holds nothing, does not count, however great its generation is.
func TestAGreaterGenerationThatIsNotHeld(t *testing.T) {
	for area := range 2 {
		for _, generation := range []int{6, 7, 8, 1000, ends} {
			d := made(t, both)
			lay(t, d, area, 6, some())
			put(t, d, (1-area)*api.AreaLines, api.Line{Generation: generation, Rec: tenant(2, 1)})
			flush(t, d)
			v := opened(t, d, 8)
			has(t, v, behind(t, 8, some()...), 6)
			commit(t, v, dying(4))
			has(t, opened(t, d, 8), behind(t, 8, append(some(), dying(4))...), v.Generation())
		}
	}
}

// All whole transactions make the table; what stands behind the last one's end does not.
func TestAllTransactions(t *testing.T) {
	for area := range 2 {
		d := made(t, both)
		n := lay(t, d, area, 4, some(), []api.Rec{dying(4)}, []api.Rec{size(2, 3), own(0, 0), {}})
		put(t, d, area*api.AreaLines+n, api.Line{Generation: 4, Seq: n, Rec: size(2, 8)})
		put(t, d, area*api.AreaLines+n+2, api.Line{Generation: 4, Seq: n + 2, Rec: base(2, 9), Last: true})
		want := behind(t, 8, append(some(), dying(4), size(2, 3), own(0, 0))...)
		has(t, opened(t, d, 8), want, 4)
		put(t, d, area*api.AreaLines+n+1, api.Line{Generation: 4, Seq: n + 1})
		has(t, opened(t, d, 8), behind(t, 8, append(some(), dying(4), own(0, 0), size(2, 8), base(2, 9))...), 4)
	}
	d := made(t, both+1)
	list := append(some(), slices.Repeat([]api.Rec{{}}, api.AreaLines-7)...)
	lay(t, d, 1, 4, append(list, drop(2)), []api.Rec{dying(4)})
	has(t, opened(t, d, 8), behind(t, 8, append(some(), drop(2))...), 4)
}

// A table that can't be made is an error, though the other area's could.
func TestTablesThatCannotBeMade(t *testing.T) {
	wrong := [][]api.Rec{
		{dying(1)}, {own(8, 0)}, {own(0, 0)}, {own(0, 1)}, {volume(1, 1, 1)}, {tenant(1, 9)}, {tenant(1, 4), tenant(2, 5)}, {tenant(1, 1), tenant(1, 1)},
		{{Kind: 0, A: 1}}, {{Kind: 0, Key: someKey}}, {{Kind: 1, A: 1, B: 1, D: 1}}, {{Kind: 3, A: 8}}, {tenant(1, 1), gone(1)},
		{tenant(1, 1), volume(0, 1, 3), base(0, 5), base(0, 4)}, {tenant(1, 1), own(8, 1)},
	}
	for _, list := range wrong {
		for area := range 2 {
			d := made(t, both)
			lay(t, d, area, 6, []api.Rec{{}}, list)
			notOpened(t, d, 8, api.ErrForm)
			lay(t, d, 1-area, 5, some())
			ahead := copied(t, d, both)
			notOpened(t, d, 8, api.ErrForm)
			if !reflect.DeepEqual(copied(t, d, both), ahead) {
				t.Errorf("%+v: Open wrote", list)
			}
			lay(t, d, 1-area, 7, some())
			has(t, opened(t, d, 8), behind(t, 8, some()...), 7)
		}
	}
	d := made(t, both)
	commit(t, opened(t, d, 8), tenant(1, 8), own(7, 1))
	notOpened(t, d, 7, api.ErrForm)
	has(t, opened(t, d, 64), behind(t, 64, tenant(1, 8), own(7, 1)), 1)
}

// Nothing is written, nor are writes that are pending made to last: Open goes by what was written.
func TestOpenWritesNothing(t *testing.T) {
	for _, lasting := range []bool{false, true} {
		for area := range 2 {
			d := made(t, both+9)
			lay(t, d, area, 3, some())
			loose(t, d, 1-area, 4, 1, api.Rec{})
			put(t, d, area*api.AreaLines, api.Line{Generation: 5, Last: true, Rec: tenant(6, 6)})
			write(t, d, both+3, bytes.Repeat([]byte{7}, 64))
			if lasting {
				flush(t, d)
			}
			ahead := copied(t, d, both+9)
			d.Limit(0)
			has(t, opened(t, d, 8), behind(t, 8, tenant(6, 6)), 5)
			notOpened(t, d, 5, api.ErrForm)
			if !reflect.DeepEqual(copied(t, d, both+9), ahead) {
				t.Errorf("area %d: Open wrote", area)
			}
		}
	}
}

// P17.2

func TestNilVault(t *testing.T) {
	var v *vault.Vault
	for range 2 {
		refused(t, v, api.ErrClosed)
		refused(t, v, api.ErrClosed, tenant(1, 1))
		refused(t, v, api.ErrClosed, api.Rec{Kind: -1})
		if !reflect.DeepEqual(v.Table(), api.Table{}) || v.Generation() != 0 {
			t.Errorf("%+v, %d", v.Table(), v.Generation())
		}
	}
}

func TestAVaultThatWasNotOpened(t *testing.T) {
	v := new(vault.Vault)
	if e := v.Commit(tenant(1, 1)); e == api.OK {
		t.Error("it took a change")
	}
	if !reflect.DeepEqual(v.Table(), api.Table{}) || v.Generation() != 0 {
		t.Errorf("%+v, %d", v.Table(), v.Generation())
	}
}

// What is refused changes nothing, and needs no power.
func TestRefusals(t *testing.T) {
	for _, list := range [][]api.Rec{
		{{Kind: 10}}, {{Kind: -1}}, {{A: 1}}, {{Key: "k"}}, {tenant(0, 1)}, {{Kind: 1, A: 2, B: 1, D: 1, Key: "short"}},
		{tenant(1, 1)}, {quota(5, 1)}, {quota(1, 8)}, {dying(2)}, {gone(1)}, {volume(2, 1, 1)}, {volume(3, 2, 1)}, {size(7, 1)}, {drop(0)},
		{base(2, 6)}, {own(0, 4)}, {own(1, 2)}, {own(2, 0)}, {own(8, 1)}, {{Kind: 9, A: math.MaxInt}},
		{own(1, 1), own(1, 1)}, {drop(2), own(0, 0), dying(1), gone(1), {Kind: 10}}, append(slices.Repeat([]api.Rec{{}}, 300), dying(2)),
	} {
		for _, reopen := range []bool{false, true} {
			d := made(t, both+5)
			v := opened(t, d, 8)
			commit(t, v, some()...)
			if reopen {
				v = opened(t, d, 8)
			}
			write(t, d, both, bytes.Repeat([]byte{7}, 64))
			ahead, at := copied(t, d, both+5), v.Table()
			_, want := table.Apply(at, list...)
			if want == api.OK {
				t.Fatalf("%+v is no wrong list", list)
			}
			d.Limit(0)
			refused(t, v, want, list...)
			refused(t, v, api.OK)
			refused(t, v, api.OK, []api.Rec{}...)
			has(t, v, at, 1)
			if !reflect.DeepEqual(copied(t, d, both+5), ahead) {
				t.Errorf("%+v: something was written", list)
			}
			dark(t, d)
			refused(t, v, want, list...)
			refused(t, v, api.OK)
			has(t, v, at, 1)
			d.Crash(true)
			commit(t, v, dying(4))
			has(t, opened(t, d, 8), behind(t, 8, append(some(), dying(4))...), v.Generation())
		}
	}
}

func TestNoChangesOfAnEmptyDisk(t *testing.T) {
	d := made(t, both)
	v := opened(t, d, 8)
	d.Limit(0)
	commit(t, v)
	has(t, v, behind(t, 8), 0)
	if d.Pending() != 0 {
		t.Error("something was written")
	}
	refused(t, v, api.ErrPower, api.Rec{})
}

// A change that changes nothing is one, and lasts.
func TestChangesThatChangeNothing(t *testing.T) {
	d := made(t, both)
	v := opened(t, d, 8)
	commit(t, v, api.Rec{})
	if v.Generation() == 0 {
		t.Error("nothing was written")
	}
	d.Crash()
	has(t, opened(t, d, 8), behind(t, 8), v.Generation())
	commit(t, v, slices.Repeat([]api.Rec{{}}, 1000)...)
	has(t, opened(t, d, 8), behind(t, 8), v.Generation())
	dark(t, d)
	refused(t, v, api.ErrPower, api.Rec{})
}

// checkKept: nothing is lost of a vault when the power goes, and Open answers what the document's words say of the disk.
func checkKept(t *testing.T, d *disk.Disk, v *vault.Vault, want api.Table) {
	t.Helper()
	has(t, v, want, v.Generation())
	d.Crash()
	at, generation, e := told(t, d, len(want.Owners))
	if e != api.OK || !same(at, want) || generation != v.Generation() {
		t.Fatalf("the disk keeps %+v, %d, %d, want %+v, %d", at, generation, e, want, v.Generation())
	}
	has(t, opened(t, d, len(want.Owners)), want, generation)
}

func TestCommits(t *testing.T) {
	d := made(t, both)
	v := opened(t, d, 8)
	var all []api.Rec
	for _, list := range [][]api.Rec{some(), {dying(4)}, {own(5, 0), gone(4), tenant(4, 5)}, {own(5, 4), size(2, 32), base(2, 8)}, {{}}, {drop(2)}} {
		commit(t, v, list...)
		all = append(all, list...)
		checkKept(t, d, v, behind(t, 8, all...))
	}
}

// Lists of every length that is near to what an area has room for.
func TestLongLists(t *testing.T) {
	for _, first := range []int{1, 2, 95, 96, 97, 190, 191, 192, 193, 194, 400, 5000} {
		for _, second := range []int{1, 2, 93, 94, 95, 96, 97, 98, 99, 100, 188, 189, 190, 191, 192, 193, 5000} {
			d := made(t, both)
			v := opened(t, d, 8)
			commit(t, v, append(slices.Repeat([]api.Rec{{}}, first-1), tenant(1, 1))...)
			checkKept(t, d, v, behind(t, 8, tenant(1, 1)))
			commit(t, v, append(slices.Repeat([]api.Rec{quota(1, 2)}, second-1), quota(1, 3))...)
			checkKept(t, d, v, behind(t, 8, tenant(1, 3)))
			commit(t, v, volume(3, 1, 1))
			checkKept(t, d, v, behind(t, 8, tenant(1, 3), volume(3, 1, 1)))
		}
	}
}

// More changes than the areas have lines, one by one and by more.
func TestManyCommits(t *testing.T) {
	for _, more := range []int{0, 1, 2, 6, 190, 191, 192} {
		d := made(t, both)
		v := opened(t, d, 8)
		commit(t, v, some()...)
		for i := range 600 / (more + 1) {
			n := i%3 + 1
			commit(t, v, append(slices.Repeat([]api.Rec{{}}, more), quota(1, n+2), size(2, i%33))...)
			checkKept(t, d, v, behind(t, 8, append(some(), quota(1, n+2), size(2, i%33))...))
		}
	}
}

// The greatest tables are kept, and changed; and so is one behind which nothing is left.
func TestGreatTables(t *testing.T) {
	d := made(t, both)
	v := opened(t, d, 64)
	at := behind(t, 64)
	for _, r := range fullest() {
		commit(t, v, r)
		at = changed(t, at, r)
		checkKept(t, d, v, at)
	}
	for i := range 1000 {
		commit(t, v, size(i%8, i%33))
		at.Volumes[i%8].Blocks = i % 33
	}
	checkKept(t, d, v, at)
	v = opened(t, d, 64)
	var list []api.Rec
	for slot := range 63 {
		list = append(list, own(slot, 0))
	}
	commit(t, v, list...)
	list = nil
	for id := range api.MaxVolumes {
		list = append(list, drop(id))
	}
	for id := 1; id <= api.MaxTenants; id++ {
		list = append(list, gone(id))
	}
	commit(t, v, list...)
	checkKept(t, d, v, behind(t, 64))
	for range 200 {
		commit(t, v, tenant(1, 64), dying(1), gone(1))
	}
	checkKept(t, d, v, behind(t, 64))
	commit(t, opened(t, d, 64), tenant(1, 64))
	checkKept(t, d, opened(t, d, 64), behind(t, 64, tenant(1, 64)))
}

// Behind the areas nothing is touched, and other writes last as the flush of the whole disk has it.
func TestOnlyTheAreas(t *testing.T) {
	d := made(t, both+7)
	for n := range 7 {
		write(t, d, both+n, bytes.Repeat([]byte{byte(n + 1)}, 64))
	}
	v := opened(t, d, 8)
	for range 500 {
		commit(t, v, tenant(1, 3), dying(1), gone(1))
	}
	d.Crash()
	for n := range 7 {
		if b, e := d.Read(both + n); e != api.OK || !bytes.Equal(b, bytes.Repeat([]byte{byte(n + 1)}, 64)) {
			t.Errorf("sector %d: %x, %d", both+n, b, e)
		}
	}
}

// Behind the greatest generation there are others, in whichever area it stands.
func TestBehindTheGreatestGeneration(t *testing.T) {
	for area := range 2 {
		for _, generation := range []int{ends - 2, ends - 1, ends} {
			for _, other := range []int{-1, 0, 1, ends - 2, ends - 1, ends} {
				d := made(t, both)
				lay(t, d, area, generation, some())
				if other >= 0 && other < generation || other == generation && area == 0 {
					lay(t, d, 1-area, other, []api.Rec{tenant(7, 7)}, []api.Rec{tenant(1, 1)})
				}
				v := opened(t, d, 8)
				has(t, v, behind(t, 8, some()...), generation)
				for i := range 900 {
					commit(t, v, size(2, i%30))
					if i%7 == 0 {
						checkKept(t, d, v, behind(t, 8, append(some(), size(2, i%30))...))
					}
					if i%50 == 0 {
						v = opened(t, d, 8)
					}
				}
			}
		}
	}
}

// Lines that were left behind, in any generation that may come, never count with those that are written.
func TestLinesThatWereLeft(t *testing.T) {
	for area := range 2 {
		for _, generation := range []int{0, 1, 5, ends - 1, ends} {
			for _, left := range []int{0, 1, 2, generation - 1, generation, generation + 1, generation + 2} {
				if left < 0 || left > ends {
					continue
				}
				d := made(t, both)
				loose(t, d, area, left, 7, dying(1))
				loose(t, d, 1-area, left, 1, dying(1))
				lay(t, d, area, generation, some())
				v := opened(t, d, 8)
				has(t, v, behind(t, 8, some()...), generation)
				for i := range 400 {
					commit(t, v, size(2, i%30))
					if i%17 == 0 {
						checkKept(t, d, v, behind(t, 8, append(some(), size(2, i%30))...))
					}
				}
			}
		}
	}
}

// The other area may have lines of as many generations as it has sectors.
func TestLinesOfManyGenerations(t *testing.T) {
	for _, generation := range []int{1, 5, ends - 100, ends - 1, ends} {
		d := made(t, both)
		lay(t, d, 0, generation, some())
		for seq := range api.AreaLines - 1 {
			put(t, d, api.AreaLines+1+seq, api.Line{Generation: (generation+seq)%ends + 1, Seq: 1 + seq, Last: true, Rec: dying(1)})
		}
		flush(t, d)
		v := opened(t, d, 8)
		for i := range 500 {
			commit(t, v, size(2, i%30))
			if i%10 == 0 {
				checkKept(t, d, v, behind(t, 8, append(some(), size(2, i%30))...))
			}
		}
	}
}

// Power that goes

// keeps: which of so many pending writes may last: none, all, each alone, all but each, the first and the last ones, and some.
func keeps(pending int) [][]bool {
	list := [][]bool{nil}
	add := func(so func(i int) bool) {
		keep := make([]bool, pending)
		for i := range keep {
			keep[i] = so(i)
		}
		list = append(list, keep)
	}
	add(func(int) bool { return true })
	for n := range pending {
		add(func(i int) bool { return i == n })
		add(func(i int) bool { return i != n })
		add(func(i int) bool { return i <= n })
		add(func(i int) bool { return i >= n })
	}
	r := random(pending)
	for range 4 {
		add(func(int) bool { return r.Intn(2) == 0 })
	}
	return list
}

// scene: a vault that has changes to make.
type scene struct {
	name  string
	build func(t *testing.T) (*disk.Disk, *vault.Vault)
	list  []api.Rec
}

// onDisk: a scene of a vault that is opened on a disk.
func onDisk(name string, lay func(t *testing.T, d *disk.Disk), list ...api.Rec) scene {
	return scene{name, func(t *testing.T) (*disk.Disk, *vault.Vault) {
		d := made(t, both+1)
		lay(t, d)
		flush(t, d)
		return d, opened(t, d, 8)
	}, list}
}

// after: a scene behind a commit.
func (s scene) after(name string, list ...api.Rec) scene {
	build := s.build
	s.name += ", " + name
	s.build = func(t *testing.T) (*disk.Disk, *vault.Vault) {
		d, v := build(t)
		commit(t, v, list...)
		return d, v
	}
	return s
}

func scenes() []scene {
	fresh := onDisk("fresh", func(t *testing.T, d *disk.Disk) {}, some()...)
	left := onDisk("lines were left", func(t *testing.T, d *disk.Disk) {
		for area := range 2 {
			loose(t, d, area, 1+area, 1, tenant(5, 1))
		}
	}, some()...)
	at := func(area, generation, other, left int) scene {
		return onDisk("held", func(t *testing.T, d *disk.Disk) {
			loose(t, d, area, generation, 7, dying(4))
			loose(t, d, 1-area, left, 1, dying(4))
			lay(t, d, area, generation, some())
			if other >= 0 {
				lay(t, d, 1-area, other, []api.Rec{tenant(7, 7), quota(7, 6)}, []api.Rec{tenant(1, 1)})
			}
		}, size(2, 1), own(0, 0), volume(0, 4, 4))
	}
	full := slices.Repeat([]api.Rec{{}}, 192)
	most := slices.Repeat([]api.Rec{{}}, 183)
	return []scene{
		fresh, left, fresh.after("one", api.Rec{}), fresh.after("room for all", full[:186]...), fresh.after("no room", full[:187]...), left.after("one", api.Rec{}),
		at(0, 5, -1, 6), at(1, 5, -1, 6), at(0, 5, 4, 6), at(1, 5, 4, 6), at(0, 5, 5, 6), at(0, 1, 0, 2),
		at(0, 5, -1, 6).after("one", size(2, 2)), at(1, 5, 4, 6).after("no room", size(2, 2)).after("at all", most...),
		at(0, ends, -1, 1), at(1, ends, -1, 1), at(0, ends, ends-1, 1), at(1, ends, ends-1, 1), at(0, ends, ends, 1), at(0, ends, 1, 1), at(1, ends, 2, 1),
		at(0, ends-1, ends-1, ends), at(1, ends-1, ends-2, ends), at(0, ends-1, -1, 0).after("one", size(2, 2)).after("at all", most...),
	}
}

// Wherever the power goes, and whichever writes last: the changes are made, all of them, or none; and what Open finds goes on.
func TestPowerThatGoes(t *testing.T) {
	for _, s := range scenes() {
		old, new, done := 0, 0, false
		for limit := 0; !done; limit++ {
			d, v := s.build(t)
			d.Limit(limit)
			done = v.Commit(s.list...) == api.OK
			for _, keep := range keeps(d.Pending()) {
				d, v := s.build(t)
				was, generation := v.Table(), v.Generation()
				will, _ := table.Apply(was, s.list...)
				d.Limit(limit)
				if e := v.Commit(s.list...); done != (e == api.OK) || e != api.OK && e != api.ErrPower {
					t.Fatalf("%s, limit %d: %d", s.name, limit, e)
				}
				d.Crash(keep...)
				if done {
					checkKept(t, d, v, will)
					continue
				}
				stays := func() {
					refused(t, v, api.ErrPower)
					refused(t, v, api.ErrPower, api.Rec{Kind: 10})
					refused(t, v, api.ErrPower, s.list...)
					has(t, v, was, generation)
				}
				stays()
				w := opened(t, d, 8)
				now, held, e := told(t, d, 8)
				has(t, w, now, held)
				if e != api.OK || !same(now, was) && !same(now, will) {
					t.Fatalf("%s, limit %d, keep %v: %+v, %d", s.name, limit, keep, now, e)
				}
				if same(now, was) {
					old++
				} else {
					new++
				}
				for i := range 3 {
					commit(t, w, tenant(6, 1+i), volume(6, 6, i))
					checkKept(t, d, w, changed(t, now, tenant(6, 1+i), volume(6, 6, i)))
					commit(t, w, dying(6), drop(6), gone(6))
				}
				checkKept(t, d, w, now)
				stays()
			}
		}
		if old == 0 || new == 0 {
			t.Errorf("%s: %d times none were done, %d times all", s.name, old, new)
		}
	}
}

// Power that is gone already is told by the first call that needs it, and by all behind it.
func TestPowerThatIsGone(t *testing.T) {
	for _, reopen := range []bool{false, true} {
		d := made(t, both)
		v := opened(t, d, 8)
		commit(t, v, some()...)
		if reopen {
			v = opened(t, d, 8)
		}
		dark(t, d)
		refused(t, v, api.OK)
		refused(t, v, api.ErrNone, dying(7))
		has(t, v, behind(t, 8, some()...), 1)
		refused(t, v, api.ErrPower, dying(4))
		d.Crash()
		refused(t, v, api.ErrPower)
		refused(t, v, api.ErrPower, dying(7))
		refused(t, v, api.ErrPower, dying(4))
		has(t, v, behind(t, 8, some()...), 1)
		if d.Pending() != 0 {
			t.Error("it wrote behind its power")
		}
		has(t, opened(t, d, 8), behind(t, 8, some()...), 1)
	}
}

// Power that went and came back between two calls was not missed.
func TestPowerThatCameBack(t *testing.T) {
	d := made(t, both)
	v := opened(t, d, 8)
	for _, r := range some() {
		dark(t, d)
		d.Crash()
		commit(t, v, r)
	}
	checkKept(t, d, v, behind(t, 8, some()...))
}

// someRec: any change of a small table, mostly one that is formed.
func someRec(r *rand.Rand) api.Rec {
	c := api.Rec{Kind: r.Intn(10), A: r.Intn(8)}
	switch c.Kind {
	case 0:
		c.A = 0
	case 1:
		c = tenant(1+r.Intn(7), 1+r.Intn(4))
	case 2:
		c.A, c.B = 1+r.Intn(7), 1+r.Intn(6)
	case 3, 4:
		c.A = 1 + r.Intn(7)
	case 5:
		c.B, c.C = 1+r.Intn(7), r.Intn(33)
	case 6:
		c.B = r.Intn(33)
	case 8:
		c.B = r.Intn(50)
	case 9:
		c.A, c.B = r.Intn(14), r.Intn(8)
	}
	if r.Intn(60) == 0 {
		*[]*int{&c.Kind, &c.A, &c.B, &c.C, &c.D}[r.Intn(5)] = []int{-1, 0, 8, 65, math.MaxInt, math.MinInt}[r.Intn(6)]
	}
	return c
}

// someList: changes that a table takes, but for a few lists, which it does not.
func someList(r *rand.Rand, at api.Table) []api.Rec {
	var list []api.Rec
	for n := r.Intn(6); len(list) < n; {
		c := someRec(r)
		next, e := table.Apply(at, c)
		if e == api.OK || r.Intn(400) == 0 {
			list = append(list, c)
		}
		if e == api.OK {
			at = next
		}
	}
	if r.Intn(9) == 0 {
		list = append(list, slices.Repeat([]api.Rec{{}}, r.Intn(220))...)
	}
	return list
}

// someLines: what may stand on a disk, begun well or not.
func someLines(t *testing.T, r *rand.Rand, d *disk.Disk) {
	t.Helper()
	generations := []int{0, 1, 2, 3, ends - 2, ends - 1, ends}
	for area := range 2 {
		if r.Intn(4) == 0 {
			continue
		}
		own := generations[r.Intn(len(generations))]
		for seq := range api.AreaLines {
			l := api.Line{Generation: own, Seq: seq, Last: r.Intn(2) == 0}
			if r.Intn(5) == 0 {
				l.Rec = someRec(r)
			}
			if r.Intn(12) == 0 {
				l.Generation = generations[r.Intn(len(generations))]
			}
			if b, e := line.Encode(l); e == api.OK && r.Intn(12) > 0 {
				write(t, d, area*api.AreaLines+seq, b)
			}
		}
	}
	flush(t, d)
}

// walk: a vault on a disk whose power goes now and then, and the table that it has, as far as it is known.
type walk struct {
	r     *rand.Rand
	d     *disk.Disk
	v     *vault.Vault
	at    api.Table
	slots int
	met   map[string]int
}

func (w *walk) step(t *testing.T) {
	t.Helper()
	list := someList(w.r, w.at)
	next, want := table.Apply(w.at, list...)
	if w.r.Intn(3) == 0 {
		w.d.Limit(w.r.Intn(4 + w.r.Intn(40)))
	}
	generation := w.v.Generation()
	e := w.v.Commit(list...)
	switch {
	case want != api.OK:
		if e != want {
			t.Fatalf("%+v of %+v: %d, want %d", list, w.at, e, want)
		}
		has(t, w.v, w.at, generation)
		w.met["refused"]++
	case e == api.OK:
		w.at = next
		has(t, w.v, w.at, w.v.Generation())
		w.met["done"]++
	case e == api.ErrPower && len(list) > 0:
		has(t, w.v, w.at, generation)
		w.crash()
		w.open(t, next)
	default:
		t.Fatalf("%+v of %+v: %d", list, w.at, e)
	}
	w.d.Limit(-1)
	switch w.r.Intn(30) {
	case 0:
		w.crash()
		w.open(t, w.at)
	case 1, 2:
		w.open(t, w.at)
	}
}

func (w *walk) crash() {
	keep := make([]bool, w.r.Intn(w.d.Pending()+2))
	most := w.r.Intn(4)
	for i := range keep {
		keep[i] = w.r.Intn(4) <= most
	}
	w.d.Crash(keep...)
}

// open: the disk keeps the table, or the next one.
func (w *walk) open(t *testing.T, next api.Table) {
	t.Helper()
	w.v = opened(t, w.d, w.slots)
	at, generation, e := told(t, w.d, w.slots)
	if e != api.OK {
		t.Fatalf("the disk keeps nothing that can be made: %d", e)
	}
	has(t, w.v, at, generation)
	switch {
	case same(at, w.at):
		w.met["old"]++
	case same(at, next):
		w.met["new"]++
	default:
		t.Fatalf("the disk keeps %+v, want %+v or %+v", at, w.at, next)
	}
	w.at = at
}

// Long ways of commits, crashes and disks that are opened again, from empty disks and from ones with any lines.
func TestWays(t *testing.T) {
	met := map[string]int{}
	for seed := range 120 {
		w := &walk{r: random(seed), met: met}
		w.slots = 1 + w.r.Intn(14)
		w.d = made(t, both+w.r.Intn(3))
		if seed%2 == 1 {
			someLines(t, w.r, w.d)
		}
		at, generation, e := told(t, w.d, w.slots)
		if e != api.OK {
			notOpened(t, w.d, w.slots, e)
			met["not made"]++
			continue
		}
		w.at, w.v = at, opened(t, w.d, w.slots)
		has(t, w.v, at, generation)
		for range 150 {
			w.step(t)
		}
		w.open(t, w.at)
	}
	for _, what := range []string{"refused", "done", "old", "new", "not made"} {
		if met[what] < 5 {
			t.Errorf("%s: %d times", what, met[what])
		}
	}
}

// The rules

// scribble: all memory of a table becomes something else, spare room included.
func scribble(at api.Table) {
	for i := range at.Tenants[:cap(at.Tenants)] {
		at.Tenants[:cap(at.Tenants)][i] = api.Tenant{Id: -5, Key: "scribble"}
	}
	for i := range at.Volumes[:cap(at.Volumes)] {
		at.Volumes[:cap(at.Volumes)][i] = api.Volume{Id: -5}
	}
	for i := range at.Owners[:cap(at.Owners)] {
		at.Owners[:cap(at.Owners)][i] = -5
	}
}

// What Table answers is new memory each time, that the vault does not share.
func TestMemoryOfTables(t *testing.T) {
	d := made(t, both)
	v := opened(t, d, 8)
	scribble(v.Table())
	has(t, v, behind(t, 8), 0)
	var all []api.Rec
	for _, r := range append(some(), tenant(2, 1), tenant(3, 1), volume(0, 3, 1), own(7, 3), size(2, 8)) {
		commit(t, v, r)
		all = append(all, r)
		a, b := v.Table(), v.Table()
		scribble(a)
		if want := behind(t, 8, all...); !same(b, want) || !same(v.Table(), want) {
			t.Fatalf("behind %d changes memory is shared", len(all))
		}
	}
	at := v.Table()
	commit(t, v, drop(2), own(0, 0), dying(3))
	if !same(at, behind(t, 8, all...)) {
		t.Error("a commit changed an answer")
	}
	checkKept(t, d, v, behind(t, 8, append(all, drop(2), own(0, 0), dying(3))...))
}

// What is handed in is neither changed nor kept, spare room included.
func TestMemoryOfChanges(t *testing.T) {
	for _, limit := range []int{-1, 0, 3, 7} {
		d := made(t, both)
		v := opened(t, d, 8)
		list := append(some(), slices.Repeat([]api.Rec{{Kind: -5, Key: "mark"}}, 5)...)
		rooms := slices.Clone(list)
		d.Limit(limit)
		e := v.Commit(list[:6]...)
		if (e == api.OK) != (limit < 0 || limit == 7) || !slices.Equal(list, rooms) {
			t.Errorf("limit %d: %d, %+v", limit, e, list)
		}
		clear(list)
		d.Limit(-1)
		if e == api.OK {
			checkKept(t, d, v, behind(t, 8, some()...))
			commit(t, v, slices.Repeat([]api.Rec{{}}, 190)...)
			checkKept(t, d, v, behind(t, 8, some()...))
		}
	}
}

// The same calls of the same disks write the same.
func TestTheSameEachTime(t *testing.T) {
	var first paper
	for i := range 3 {
		w := &walk{r: random(5), d: made(t, both), slots: 9, met: map[string]int{}}
		w.at, w.v = behind(t, 9), opened(t, w.d, 9)
		for range 200 {
			w.step(t)
		}
		p := copied(t, w.d, both)
		if i == 0 {
			first = p
		}
		if !reflect.DeepEqual(p, first) {
			t.Error("another disk")
		}
	}
}

// Vaults of two disks have nothing to do with each other.
func TestTwoVaults(t *testing.T) {
	a, b := made(t, both), made(t, both)
	v, w := opened(t, a, 8), opened(t, b, 9)
	commit(t, v, some()...)
	has(t, w, behind(t, 9), 0)
	commit(t, w, tenant(3, 9))
	dark(t, a)
	refused(t, v, api.ErrPower, api.Rec{})
	commit(t, w, dying(3))
	checkKept(t, b, w, behind(t, 9, tenant(3, 9), dying(3)))
	a.Crash()
	has(t, opened(t, a, 8), behind(t, 8, some()...), 1)
}

// Great lists are taken, and refused, as small ones are.
func TestGreatLists(t *testing.T) {
	d := made(t, both)
	v := opened(t, d, 8)
	commit(t, v, some()...)
	many := slices.Repeat([]api.Rec{size(2, 5), {}, own(5, 0), own(5, 4)}, 1<<16)
	commit(t, v, many...)
	checkKept(t, d, v, behind(t, 8, append(some(), size(2, 5))...))
	refused(t, v, api.ErrNone, append(many, gone(7))...)
	refused(t, v, api.ErrArg, api.Rec{Key: strings.Repeat("k", 1<<20)})
	checkKept(t, d, v, behind(t, 8, append(some(), size(2, 5))...))
}

func FuzzVaultsAgree(f *testing.F) {
	f.Add(uint8(8), int64(1), []byte{})
	f.Add(uint8(1), int64(2), []byte("lines that stand on a disk ahead of it, or what is none"))
	f.Add(uint8(64), int64(3), []byte{0, 0, 255, 1, 1, 254, 192, 0, 255})
	f.Fuzz(func(t *testing.T, slots uint8, seed int64, b []byte) {
		d := made(t, both)
		for ; len(b) >= 3; b = b[3:] {
			area, seq := int(b[0]/192), int(b[0])%192
			l := api.Line{Generation: int(b[1] % 8), Seq: seq, Last: b[2] >= 128}
			if b[1] >= 128 {
				l.Generation = ends - int(b[1]%8)
			}
			l.Rec = api.Rec{Kind: int(b[2] % 10), A: int(b[2]%128) / 10, B: int(b[1]/8) % 16}
			if l.Rec.Kind == api.RecTenant {
				l.Rec.D, l.Rec.Key = 1, someKey
			}
			put(t, d, area*api.AreaLines+seq, l)
		}
		flush(t, d)
		w := &walk{r: rand.New(rand.NewSource(seed)), d: d, slots: int(slots), met: map[string]int{}}
		at, generation, e := told(t, d, w.slots)
		if e != api.OK {
			notOpened(t, d, w.slots, e)
			return
		}
		w.at, w.v = at, opened(t, d, w.slots)
		has(t, w.v, at, generation)
		for range 30 {
			w.step(t)
		}
		w.open(t, w.at)
	})
}
