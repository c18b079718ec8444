package disk_test

import (
	"bytes"
	"math"
	"math/rand"
	"slices"
	"testing"

	"stowage/api"
	"stowage/disk"
)

// random: the same in each run with one seed.
func random(seed int) *rand.Rand { return rand.New(rand.NewSource(int64(seed))) }

// full: a sector of one byte.
func full(b byte) []byte { return bytes.Repeat([]byte{b}, api.Sector) }

// counted: a sector whose bytes all differ from their neighbours.
func counted(from int) []byte {
	b := make([]byte, api.Sector)
	for i := range b {
		b[i] = byte(from + i)
	}
	return b
}

// outside: places that no disk of so many sectors has.
func outside(sectors int) []int {
	return []int{-1, -2, sectors, sectors + 1, 1<<16 + 1, 1 << 32, 1<<32 + 1, -1 << 32, math.MaxInt, math.MinInt, -sectors}
}

// wrongSizes: of bytes that are no sector.
func wrongSizes() []int {
	return []int{0, 1, api.Sector - 1, api.Sector + 1, 2 * api.Sector, 256, 256 + api.Sector, 1 << 16}
}

func made(t *testing.T, sectors int) *disk.Disk {
	t.Helper()
	d, e := disk.New(sectors)
	if d == nil || e != api.OK {
		t.Fatalf("New(%d): %v, %d", sectors, d, e)
	}
	return d
}

// answers: each call's bytes and its error.
func answers(t *testing.T, what string, n int, b []byte, e api.Errno, want []byte, fault api.Errno) {
	t.Helper()
	if !bytes.Equal(b, want) || e != fault || (e == api.OK) != (len(b) == api.Sector) {
		t.Errorf("%s(%d) = %x, %d, want %x, %d", what, n, b, e, want, fault)
	}
}

func reads(t *testing.T, d *disk.Disk, n int, want []byte) {
	t.Helper()
	b, e := d.Read(n)
	answers(t, "Read", n, b, e, want, api.OK)
}

func notRead(t *testing.T, d *disk.Disk, n int, fault api.Errno) {
	t.Helper()
	b, e := d.Read(n)
	answers(t, "Read", n, b, e, nil, fault)
}

func lasts(t *testing.T, d *disk.Disk, n int, want []byte) {
	t.Helper()
	b, e := d.Lasting(n)
	answers(t, "Lasting", n, b, e, want, api.OK)
}

func notLasting(t *testing.T, d *disk.Disk, n int, fault api.Errno) {
	t.Helper()
	b, e := d.Lasting(n)
	answers(t, "Lasting", n, b, e, nil, fault)
}

func write(t *testing.T, d *disk.Disk, n int, b []byte) {
	t.Helper()
	notWritten(t, d, n, b, api.OK)
}

func notWritten(t *testing.T, d *disk.Disk, n int, b []byte, fault api.Errno) {
	t.Helper()
	if e := d.Write(n, b); e != fault {
		t.Errorf("Write(%d, %d bytes): %d, want %d", n, len(b), e, fault)
	}
}

func flush(t *testing.T, d *disk.Disk, fault api.Errno) {
	t.Helper()
	if e := d.Flush(); e != fault {
		t.Errorf("Flush(): %d, want %d", e, fault)
	}
}

func pending(t *testing.T, d *disk.Disk, want int) {
	t.Helper()
	if got := d.Pending(); got != want {
		t.Errorf("Pending() = %d, want %d", got, want)
	}
}

// dark: all that needs power is refused so, whatever else were wrong.
func dark(t *testing.T, d *disk.Disk, sectors int) {
	t.Helper()
	flush(t, d, api.ErrPower)
	for _, n := range append(outside(sectors), 0, sectors-1) {
		notRead(t, d, n, api.ErrPower)
		for _, size := range append(wrongSizes(), api.Sector) {
			notWritten(t, d, n, make([]byte, size), api.ErrPower)
		}
		notWritten(t, d, n, nil, api.ErrPower)
	}
}

// note and paper: a disk as the document says it, of which nothing is reckoned ahead.
type note struct {
	n int
	b []byte
}

type paper struct {
	sectors int
	lasting []note // all writes that ever lasted
	pending []note
	power   bool
	limited bool
	steps   int // that are let
}

func newPaper(sectors int) *paper { return &paper{sectors: sectors, power: true} }

func last(n int, lists ...[]note) []byte {
	b := make([]byte, api.Sector)
	for _, w := range slices.Concat(lists...) {
		if w.n == n {
			b = w.b
		}
	}
	return b
}

func (p *paper) there(n int) bool { return 0 <= n && n < p.sectors }

func (p *paper) read(n int) ([]byte, api.Errno) {
	if !p.power {
		return nil, api.ErrPower
	}
	if !p.there(n) {
		return nil, api.ErrRange
	}
	return last(n, p.lasting, p.pending), api.OK
}

func (p *paper) lastingAt(n int) ([]byte, api.Errno) {
	if !p.there(n) {
		return nil, api.ErrRange
	}
	return last(n, p.lasting), api.OK
}

// step: may one more write or flush be?
func (p *paper) step() bool {
	if p.limited {
		p.power = p.steps > 0
		p.steps--
	}
	return p.power
}

func (p *paper) write(n int, b []byte) api.Errno {
	if !p.power {
		return api.ErrPower
	}
	if len(b) != 64 {
		return api.ErrArg
	}
	if !p.there(n) {
		return api.ErrRange
	}
	if !p.step() {
		return api.ErrPower
	}
	p.pending = append(p.pending, note{n, slices.Clone(b)})
	return api.OK
}

func (p *paper) flush() api.Errno {
	if !p.power || !p.step() {
		return api.ErrPower
	}
	p.lasting = append(p.lasting, p.pending...)
	p.pending = nil
	return api.OK
}

func (p *paper) limit(n int) { p.limited, p.steps = n >= 0, n }

func (p *paper) crash(keep []bool) {
	for i, w := range p.pending {
		if i < len(keep) && keep[i] {
			p.lasting = append(p.lasting, w)
		}
	}
	p.pending, p.power, p.limited = nil, true, false
}

// pair: a disk and what it has to be.
type pair struct {
	*disk.Disk
	said *paper
}

func paired(t *testing.T, sectors int) *pair {
	t.Helper()
	return &pair{made(t, sectors), newPaper(sectors)}
}

func (p *pair) put(t *testing.T, n int, b []byte) {
	t.Helper()
	if e, want := p.Write(n, b), p.said.write(n, b); e != want {
		t.Fatalf("Write(%d, %d bytes): %d, want %d", n, len(b), e, want)
	}
}

func (p *pair) flush(t *testing.T) {
	t.Helper()
	if e, want := p.Flush(), p.said.flush(); e != want {
		t.Fatalf("Flush(): %d, want %d", e, want)
	}
}

func (p *pair) limit(n int) {
	p.Limit(n)
	p.said.limit(n)
}

func (p *pair) crash(keep ...bool) {
	p.Crash(keep...)
	p.said.crash(keep)
}

// look: what can be asked of both is the same, at these places.
func (p *pair) look(t *testing.T, places ...int) {
	t.Helper()
	for _, n := range places {
		b, e := p.Read(n)
		if want, fault := p.said.read(n); !bytes.Equal(b, want) || e != fault {
			t.Fatalf("Read(%d) = %x, %d, want %x, %d", n, b, e, want, fault)
		}
		b, e = p.Lasting(n)
		if want, fault := p.said.lastingAt(n); !bytes.Equal(b, want) || e != fault {
			t.Fatalf("Lasting(%d) = %x, %d, want %x, %d", n, b, e, want, fault)
		}
	}
	if got, want := p.Pending(), len(p.said.pending); got != want {
		t.Fatalf("Pending() = %d, want %d", got, want)
	}
}

// end: what can't be asked, the limit and the writes that are hidden by later ones, is told by what comes of them.
func (p *pair) end(t *testing.T, places ...int) {
	t.Helper()
	for range 3 {
		p.put(t, p.said.sectors-1, full(0xEE))
	}
	var keep []bool
	for i := range p.said.pending {
		keep = append(keep, i%3 != 1)
	}
	p.crash(keep[:max(0, len(keep)-1)]...)
	p.look(t, places...)
}

// P14.1

func TestSectorsAtTheirEnds(t *testing.T) {
	for _, sectors := range []int{0, -1, -api.MaxSectors, api.MaxSectors + 1, 1 << 16, 1 << 32, 1<<32 + 1, math.MaxInt, math.MinInt} {
		if d, e := disk.New(sectors); d != nil || e != api.ErrArg {
			t.Errorf("New(%d) = %v, %d", sectors, d, e)
		}
	}
	for _, sectors := range []int{1, 2, 3, api.Sector, 2 * api.AreaLines, api.MaxSectors - 1, api.MaxSectors} {
		d := made(t, sectors)
		pending(t, d, 0)
		for n := range sectors {
			reads(t, d, n, full(0))
			lasts(t, d, n, full(0))
		}
		for _, n := range outside(sectors) {
			notRead(t, d, n, api.ErrRange)
			notLasting(t, d, n, api.ErrRange)
			notWritten(t, d, n, full(1), api.ErrRange)
		}
	}
}

func TestANewDiskHasNoLimit(t *testing.T) {
	d := made(t, 2)
	for i := range 1000 {
		write(t, d, i%2, counted(i))
		flush(t, d, api.OK)
	}
	reads(t, d, 1, counted(999))
	lasts(t, d, 0, counted(998))
}

// P14.2

func TestWhatWasWrittenLastIsRead(t *testing.T) {
	d := made(t, 3)
	write(t, d, 0, counted(1))
	write(t, d, 2, counted(2))
	reads(t, d, 0, counted(1))
	reads(t, d, 1, full(0))
	reads(t, d, 2, counted(2))
	write(t, d, 0, counted(3))
	reads(t, d, 0, counted(3))
	flush(t, d, api.OK)
	reads(t, d, 0, counted(3))
	reads(t, d, 2, counted(2))
	write(t, d, 2, full(0))
	reads(t, d, 2, full(0))
	lasts(t, d, 2, counted(2))
	flush(t, d, api.OK)
	reads(t, d, 2, full(0))
	lasts(t, d, 2, full(0))
}

// Bytes 0 are written as all others are: over what was there, over what is pending, and where nothing was.
func TestBytes0AreWritten(t *testing.T) {
	d := made(t, 2)
	write(t, d, 0, full(0))
	pending(t, d, 1)
	write(t, d, 0, full(5))
	write(t, d, 0, full(0))
	pending(t, d, 3)
	reads(t, d, 0, full(0))
	d.Crash(true, true)
	lasts(t, d, 0, full(5))
	write(t, d, 0, full(0))
	write(t, d, 1, full(0))
	lasts(t, d, 0, full(5))
	d.Crash(false, true)
	reads(t, d, 0, full(5))
	write(t, d, 0, full(0))
	d.Crash(true)
	reads(t, d, 0, full(0))
	lasts(t, d, 0, full(0))
	one := full(0) // a sector with a single bit
	for i := range one {
		one[i] = 1
		write(t, d, 1, one)
		flush(t, d, api.OK)
		lasts(t, d, 1, one)
		reads(t, d, 1, one)
		one[i] = 0
	}
}

// What stands there already is pending when it is written again.
func TestTheSameIsWrittenAgain(t *testing.T) {
	d := made(t, 1)
	write(t, d, 0, full(5))
	flush(t, d, api.OK)
	write(t, d, 0, full(5))
	write(t, d, 0, full(5))
	write(t, d, 0, full(6))
	pending(t, d, 3)
	d.Crash(true, true, true)
	lasts(t, d, 0, full(6))
}

// R2: of several errors the first one that the chapter names; none is held against the limit.
func TestWritesThatAreRefused(t *testing.T) {
	d := made(t, 3)
	write(t, d, 1, full(9))
	d.Limit(1)
	for _, n := range append(outside(3), 0, 1, 2) {
		for _, size := range wrongSizes() {
			notWritten(t, d, n, make([]byte, size), api.ErrArg)
		}
		notWritten(t, d, n, nil, api.ErrArg)
	}
	for _, n := range outside(3) {
		notWritten(t, d, n, full(1), api.ErrRange)
		notRead(t, d, n, api.ErrRange)
	}
	pending(t, d, 1)
	write(t, d, 0, full(8)) // the limit was 1 still
	for _, n := range outside(3) {
		notWritten(t, d, n, full(1)[:63], api.ErrArg)
		notWritten(t, d, n, full(1), api.ErrRange)
	}
	reads(t, d, 0, full(8)) // and the power is not gone
	pending(t, d, 2)
	notWritten(t, d, 0, full(7), api.ErrPower)
	dark(t, d, 3)
}

func TestFlushed(t *testing.T) {
	d := made(t, 2)
	flush(t, d, api.OK)
	write(t, d, 0, full(1))
	write(t, d, 1, full(2))
	write(t, d, 0, full(3))
	lasts(t, d, 0, full(0))
	flush(t, d, api.OK)
	pending(t, d, 0)
	lasts(t, d, 0, full(3))
	lasts(t, d, 1, full(2))
	write(t, d, 0, full(4))
	d.Crash()
	reads(t, d, 0, full(3))
	reads(t, d, 1, full(2))
}

func TestTheLimitOfWrites(t *testing.T) {
	d := made(t, 2)
	write(t, d, 0, full(1))
	d.Limit(2)
	write(t, d, 0, full(2))
	write(t, d, 1, full(3))
	reads(t, d, 0, full(2)) // the limit is 0, and the power is there
	reads(t, d, 1, full(3))
	notWritten(t, d, 1, full(4), api.ErrPower)
	dark(t, d, 2)
	pending(t, d, 3)
	d.Crash(true, true, true, true)
	pending(t, d, 0)
	lasts(t, d, 0, full(2))
	lasts(t, d, 1, full(3))
}

func TestTheLimitOfFlushes(t *testing.T) {
	d := made(t, 2)
	d.Limit(3)
	flush(t, d, api.OK) // with nothing pending
	write(t, d, 0, full(1))
	flush(t, d, api.OK)
	reads(t, d, 0, full(1))
	flush(t, d, api.ErrPower) // with nothing pending
	dark(t, d, 2)
	lasts(t, d, 0, full(1))
	d.Crash()
	write(t, d, 0, full(2))
	d.Limit(0)
	flush(t, d, api.ErrPower)
	pending(t, d, 1)
	lasts(t, d, 0, full(1))
	dark(t, d, 2)
	d.Crash(true)
	reads(t, d, 0, full(2))
}

func TestReadsDoNotCount(t *testing.T) {
	d := made(t, 1)
	d.Limit(1)
	for range 10 {
		reads(t, d, 0, full(0))
		lasts(t, d, 0, full(0))
		pending(t, d, 0)
	}
	write(t, d, 0, full(1))
	for range 10 {
		reads(t, d, 0, full(1))
	}
}

// P14.3

func TestLimitsAtTheirEnds(t *testing.T) {
	for _, n := range []int{-1, -2, math.MinInt, math.MinInt + 1, -1 << 32, math.MaxInt, 1 << 32, 200} {
		d := made(t, 1)
		d.Limit(0)
		d.Limit(n)
		for i := range 100 {
			write(t, d, 0, counted(i))
			flush(t, d, api.OK)
		}
		reads(t, d, 0, counted(99))
	}
	for n := range 20 {
		d := made(t, 1)
		d.Limit(n)
		for range n {
			write(t, d, 0, counted(n))
		}
		notWritten(t, d, 0, counted(n), api.ErrPower)
	}
}

func TestALaterLimitHolds(t *testing.T) {
	d := made(t, 1)
	d.Limit(1)
	d.Limit(3)
	write(t, d, 0, full(1))
	d.Limit(1)
	write(t, d, 0, full(2))
	d.Limit(-7)
	write(t, d, 0, full(3))
	d.Limit(0)
	notWritten(t, d, 0, full(4), api.ErrPower)
	lasts(t, d, 0, full(0))
	pending(t, d, 3)
}

// Only Crash brings the power back, and it takes the limit with it.
func TestALimitBringsNoPower(t *testing.T) {
	for _, n := range []int{-1, 0, 1, 5, math.MaxInt, math.MinInt} {
		d := made(t, 2)
		write(t, d, 1, full(1))
		d.Limit(0)
		flush(t, d, api.ErrPower)
		d.Limit(n)
		dark(t, d, 2)
		pending(t, d, 1)
		d.Crash()
		for range 10 {
			write(t, d, 0, full(1))
			flush(t, d, api.OK)
		}
	}
}

func TestCrashesKeep(t *testing.T) {
	for _, c := range []struct {
		keep      []bool
		one, last byte
	}{
		{nil, 0, 0},
		{[]bool{}, 0, 0},
		{[]bool{true}, 1, 0},
		{[]bool{false, true}, 0, 2},
		{[]bool{true, true}, 1, 2},
		{[]bool{false, false, true}, 3, 0},
		{[]bool{true, false, true}, 3, 0},
		{[]bool{true, true, false, true}, 1, 4},
		{[]bool{true, false, false, true, true}, 1, 4},
		{[]bool{true, true, true, false, false, true}, 3, 2},
		{[]bool{false, false, false, false, true, true, true}, 0, 0},
		{[]bool{true, true, true, true, true}, 3, 4},
	} {
		for _, gone := range []bool{false, true} {
			d := made(t, 3)
			for i := range 4 {
				write(t, d, 2*(i%2), full(byte(i+1)))
			}
			if gone {
				d.Limit(0)
				notWritten(t, d, 1, full(9), api.ErrPower)
				notWritten(t, d, 1, full(9), api.ErrPower)
			}
			d.Crash(c.keep...)
			pending(t, d, 0)
			for n, want := range []byte{c.one, 0, c.last} {
				reads(t, d, n, full(want))
				lasts(t, d, n, full(want))
			}
			d.Crash(true, true, true, true) // what was forgotten does not come again
			for n, want := range []byte{c.one, 0, c.last} {
				reads(t, d, n, full(want))
			}
		}
	}
}

// What lasted ahead stays where no kept write is.
func TestCrashesLeaveWhatLasts(t *testing.T) {
	d := made(t, 3)
	for n := range 3 {
		write(t, d, n, full(byte(10+n)))
	}
	flush(t, d, api.OK)
	write(t, d, 0, full(20))
	write(t, d, 1, full(21))
	write(t, d, 0, full(30))
	d.Crash(false, true)
	lasts(t, d, 0, full(10))
	lasts(t, d, 1, full(21))
	lasts(t, d, 2, full(12))
	write(t, d, 1, full(40))
	d.Crash(true)
	lasts(t, d, 1, full(40))
}

func TestACrashTakesTheLimit(t *testing.T) {
	for n := range 4 {
		d := made(t, 1)
		d.Limit(n)
		d.Crash()
		for range 10 {
			write(t, d, 0, full(1))
			flush(t, d, api.OK)
		}
	}
}

// With or without power Lasting and Pending answer the same.
func TestWhatIsKnownWithoutPower(t *testing.T) {
	d := made(t, 2)
	write(t, d, 0, full(1))
	flush(t, d, api.OK)
	write(t, d, 0, full(2))
	write(t, d, 1, full(3))
	for range 2 {
		lasts(t, d, 0, full(1))
		lasts(t, d, 1, full(0))
		pending(t, d, 2)
		for _, n := range outside(2) {
			notLasting(t, d, n, api.ErrRange)
		}
		d.Limit(0)
		flush(t, d, api.ErrPower)
	}
}

// All three promises, by all calls up to a number, and by many more of them

func TestAllCallsOfASmallDisk(t *testing.T) {
	const depth = 4
	calls := []func(p *pair, b []byte){
		func(p *pair, b []byte) { p.put(t, 0, b) },
		func(p *pair, b []byte) { p.put(t, 1, b) },
		func(p *pair, b []byte) { p.put(t, 1, full(0)) },
		func(p *pair, b []byte) { p.put(t, 2, b[:63]) },
		func(p *pair, b []byte) { p.put(t, 2, b) },
		func(p *pair, b []byte) { p.flush(t) },
		func(p *pair, b []byte) { p.limit(-1) },
		func(p *pair, b []byte) { p.limit(0) },
		func(p *pair, b []byte) { p.limit(1) },
		func(p *pair, b []byte) { p.limit(2) },
		func(p *pair, b []byte) { p.crash() },
		func(p *pair, b []byte) { p.crash(true) },
		func(p *pair, b []byte) { p.crash(false, true) },
		func(p *pair, b []byte) { p.crash(true, false, true, true) },
	}
	total := 1
	for range depth {
		total *= len(calls)
	}
	for number := range total {
		p := paired(t, 2)
		for step := range depth {
			calls[number%len(calls)](p, counted(step+1))
			number /= len(calls)
			p.look(t, 0, 1)
		}
		p.look(t, -1, 2)
		p.end(t, 0, 1)
	}
}

func TestDisksAreAsItIsSaid(t *testing.T) {
	for seed := range 300 {
		r := random(seed)
		sectors := 1 + r.Intn(6)
		p := paired(t, sectors)
		for step := range 150 {
			n := r.Intn(sectors+2) - 1
			switch r.Intn(12) {
			case 0:
				p.flush(t)
			case 1:
				p.limit(r.Intn(20) - 2)
			case 2:
				keep := make([]bool, r.Intn(len(p.said.pending)+3))
				for i := range keep {
					keep[i] = r.Intn(2) == 0
				}
				p.crash(keep...)
			case 3:
				p.put(t, n, make([]byte, 63+r.Intn(3)))
			case 4:
				p.put(t, n, full(0))
			default:
				p.put(t, n, counted(step))
			}
			p.look(t, n, r.Intn(sectors))
		}
		var all []int
		for n := range sectors {
			all = append(all, n)
		}
		p.look(t, all...)
		p.end(t, all...)
	}
}

// The greatest disk there is, all of whose sectors are pending, and more writes than there are sectors.
func TestAGreatDisk(t *testing.T) {
	d := made(t, api.MaxSectors)
	for n := range api.MaxSectors {
		write(t, d, n, counted(n))
	}
	for n := range api.MaxSectors {
		write(t, d, n, counted(n+n/256+1))
	}
	pending(t, d, 2*api.MaxSectors)
	keep := make([]bool, 2*api.MaxSectors)
	for i := range keep {
		keep[i] = i < api.MaxSectors || i%3 == 0
	}
	d.Crash(keep...)
	for n := range api.MaxSectors {
		want := counted(n)
		if keep[api.MaxSectors+n] {
			want = counted(n + n/256 + 1)
		}
		lasts(t, d, n, want)
		reads(t, d, n, want)
	}
}

// However many writes are pending, the last ones are read, and each is kept or forgotten by itself.
func TestManyPendingWrites(t *testing.T) {
	const writes = 100000
	d := made(t, 2)
	keep := make([]bool, writes)
	for i := range writes {
		write(t, d, i%2, counted(i))
		reads(t, d, i%2, counted(i))
		keep[i] = i < 1001
	}
	pending(t, d, writes)
	lasts(t, d, 0, full(0))
	d.Crash(keep...)
	reads(t, d, 0, counted(1000))
	reads(t, d, 1, counted(999))
}

// R1

func TestANilDiskIsClosed(t *testing.T) {
	var none *disk.Disk
	for _, n := range append(outside(3), 0, 1) {
		notRead(t, none, n, api.ErrClosed)
		notLasting(t, none, n, api.ErrClosed)
		notWritten(t, none, n, full(1), api.ErrClosed)
		notWritten(t, none, n, nil, api.ErrClosed)
		none.Limit(n)
	}
	none.Crash()
	none.Crash(true, false)
	flush(t, none, api.ErrClosed)
	pending(t, none, 0)
}

// A disk that New did not answer has no sectors.
func TestADiskWithoutAnything(t *testing.T) {
	d := new(disk.Disk)
	for _, n := range append(outside(3), 0, 1) {
		notRead(t, d, n, api.ErrRange)
		notLasting(t, d, n, api.ErrRange)
		notWritten(t, d, n, full(1), api.ErrRange)
		notWritten(t, d, n, nil, api.ErrArg)
	}
	d.Crash(true)
	d.Limit(1)
	flush(t, d, api.OK)
	flush(t, d, api.ErrPower)
	pending(t, d, 0)
}

// R3

// What is refused changes nothing: what is pending, the limit and the power neither.
func TestWhatIsRefusedChangesNothing(t *testing.T) {
	for seed := range 100 {
		r := random(seed)
		p := paired(t, 3)
		for step := range 60 {
			if p.said.power {
				for _, n := range outside(3) {
					notRead(t, p.Disk, n, api.ErrRange)
					notLasting(t, p.Disk, n, api.ErrRange)
					notWritten(t, p.Disk, n, full(1), api.ErrRange)
					notWritten(t, p.Disk, n, full(1)[1:], api.ErrArg)
				}
			}
			switch r.Intn(6) {
			case 0:
				p.flush(t)
			case 1:
				p.limit(r.Intn(9) - 1)
			case 2:
				p.crash(r.Intn(2) == 0, r.Intn(2) == 0)
			default:
				p.put(t, r.Intn(3), counted(step))
			}
			p.look(t, 0, 1, 2)
		}
		p.end(t, 0, 1, 2)
	}
}

// R4

func TestBytesAreLeftAndNotKept(t *testing.T) {
	room := counted(1)
	room = append(room, counted(100)...)
	before := slices.Clone(room)
	d := made(t, 2)
	b := room[5 : 5+api.Sector]
	write(t, d, 0, b)
	flush(t, d, api.OK)
	write(t, d, 1, b)
	if !bytes.Equal(room, before) {
		t.Error("the bytes, or what stands around them, were changed")
	}
	want := slices.Clone(b)
	for i := range room {
		room[i] = 0xEE
	}
	reads(t, d, 0, want)
	lasts(t, d, 0, want)
	reads(t, d, 1, want)
	keep := []bool{true, false, true}
	d.Crash(keep[:1]...)
	if !slices.Equal(keep, []bool{true, false, true}) {
		t.Errorf("what is kept was changed: %v", keep)
	}
	keep[0] = false
	lasts(t, d, 1, want)
}

func TestAnswersAreNewMemory(t *testing.T) {
	d := made(t, 3)
	write(t, d, 0, full(1))
	flush(t, d, api.OK)
	write(t, d, 1, full(2))
	var all [][]byte
	for n := range 3 {
		for range 2 {
			b, _ := d.Read(n)
			c, _ := d.Lasting(n)
			all = append(all, b, c)
		}
	}
	for i, b := range all {
		b = b[:cap(b)]
		for j := range b {
			b[j] = byte(100 + i)
		}
	}
	for i, b := range all {
		if !bytes.Equal(b, full(byte(100+i))) {
			t.Errorf("answer %d shares its memory: %x", i, b)
		}
	}
	for n, want := range []byte{1, 2, 0} {
		reads(t, d, n, full(want))
	}
	lasts(t, d, 1, full(0))
	b, _ := d.Read(1)
	write(t, d, 1, full(7))
	flush(t, d, api.OK)
	if !bytes.Equal(b, full(2)) {
		t.Errorf("an answer changed later: %x", b)
	}
}

// R5

func TestDisksAreApart(t *testing.T) {
	var all []*pair
	for sectors := 1; sectors < 5; sectors++ {
		all = append(all, paired(t, sectors), paired(t, sectors))
	}
	r := random(1)
	for step := range 3000 {
		p := all[r.Intn(len(all))]
		switch r.Intn(8) {
		case 0:
			p.flush(t)
		case 1:
			p.limit(r.Intn(9) - 1)
		case 2:
			p.crash(true, r.Intn(2) == 0, true)
		default:
			p.put(t, r.Intn(4), counted(step))
		}
		p.look(t, 0, 1, 2, 3)
	}
	for _, p := range all {
		p.end(t, 0, 1, 2, 3)
	}
}

func FuzzDisksAgree(f *testing.F) {
	f.Add(3, []byte{0, 0, 0, 1, 0, 0, 3, 2, 2, 2, 2, 1, 0, 2, 0, 3, 0, 1, 0, 3, 0})
	f.Add(1, []byte{2, 0, 0, 0, 4, 9, 5, 1, 3, 255, 0, 0, 1, 1})
	f.Add(0, []byte{})
	f.Fuzz(func(t *testing.T, sectors int, calls []byte) {
		d, e := disk.New(sectors)
		if bad := sectors < 1 || sectors > 4096; (d == nil) != bad || (e == api.ErrArg) != bad {
			t.Fatalf("New(%d) = %v, %d", sectors, d, e)
		}
		if d == nil {
			return
		}
		p := &pair{d, newPaper(sectors)}
		for i := 0; i+1 < len(calls); i += 2 {
			b := int(int8(calls[i+1]))
			switch calls[i] % 6 {
			case 0:
				p.put(t, b, counted(i))
			case 1:
				p.flush(t)
			case 2:
				p.limit(b)
			case 3:
				var keep []bool
				for bit := range 8 {
					keep = append(keep, b>>bit&1 == 1)
				}
				p.crash(keep...)
			case 4:
				p.put(t, b, full(0))
			default:
				p.put(t, b%3, make([]byte, 60+b&7))
			}
			p.look(t, b, 0, sectors-1)
		}
		p.end(t, 0, 1, sectors-1)
	})
}
