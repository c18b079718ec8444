package clock_test

import (
	"math"
	"math/rand"
	"slices"
	"testing"

	"stowage/api"
	"stowage/clock"
)

// random: the same in each run with one seed.
func random(seed int) *rand.Rand { return rand.New(rand.NewSource(int64(seed))) }

// ends: numbers of which things may be.
func ends() []int { return []int{0, 1, api.MaxList, 1 << 31, 1 << 32, math.MaxInt - 1, math.MaxInt} }

// below: numbers of which no thing may be.
func below() []int { return []int{-1, -2, -api.MaxList, -1 << 32, math.MinInt + 1, math.MinInt} }

// made: a clock with things in its first places.
func made(t *testing.T, places int, things ...int) *clock.Clock {
	t.Helper()
	c, e := clock.New(places)
	if c == nil || e != api.OK {
		t.Fatalf("New(%d): %v, %d", places, c, e)
	}
	for i, thing := range things {
		put(t, c, thing, i)
	}
	return c
}

func put(t *testing.T, c *clock.Clock, thing, want int) {
	t.Helper()
	if place, e := c.Put(thing); place != want || e != api.OK {
		t.Errorf("Put(%d) = %d, %d, want %d", thing, place, e, want)
	}
}

func notPut(t *testing.T, c *clock.Clock, thing int, want api.Errno) {
	t.Helper()
	if place, e := c.Put(thing); place != 0 || e != want {
		t.Errorf("Put(%d) = %d, %d, want error %d", thing, place, e, want)
	}
}

func touch(t *testing.T, c *clock.Clock, things ...int) {
	t.Helper()
	for _, thing := range things {
		if e := c.Touch(thing); e != api.OK {
			t.Errorf("Touch(%d): %d", thing, e)
		}
	}
}

func drop(t *testing.T, c *clock.Clock, things ...int) {
	t.Helper()
	for _, thing := range things {
		if e := c.Drop(thing); e != api.OK {
			t.Errorf("Drop(%d): %d", thing, e)
		}
	}
}

// notThere: neither call finds them.
func notThere(t *testing.T, c *clock.Clock, want api.Errno, things ...int) {
	t.Helper()
	for _, thing := range things {
		if e := c.Touch(thing); e != want {
			t.Errorf("Touch(%d): %d, want %d", thing, e, want)
		}
		if e := c.Drop(thing); e != want {
			t.Errorf("Drop(%d): %d, want %d", thing, e, want)
		}
	}
}

func leave(t *testing.T, c *clock.Clock, want int, may ...int) {
	t.Helper()
	if thing, e := c.Leave(may...); thing != want || e != api.OK {
		t.Errorf("Leave(%v) = %d, %d, want %d", may, thing, e, want)
	}
}

func notLeft(t *testing.T, c *clock.Clock, want api.Errno, may ...int) {
	t.Helper()
	if thing, e := c.Leave(may...); thing != 0 || e != want {
		t.Errorf("Leave(%v) = %d, %d, want error %d", may, thing, e, want)
	}
}

func things(t *testing.T, c *clock.Clock, want ...int) {
	t.Helper()
	if got := c.Things(); !slices.Equal(got, want) {
		t.Errorf("Things() = %v, want %v", got, want)
	}
}

// leaveAll: all things leave, one behind the other, in this order.
func leaveAll(t *testing.T, c *clock.Clock, want ...int) {
	t.Helper()
	all := slices.Clone(want)
	for _, thing := range want {
		leave(t, c, thing, all...)
	}
	for _, thing := range c.Things() {
		if thing != -1 {
			t.Errorf("%d is still there", thing)
		}
	}
}

// seat and ring: a clock as the document says it.
type seat struct {
	thing        int
	taken, marks bool
}

type ring struct {
	seats []seat
	hand  int
}

func (r *ring) find(thing int) *seat {
	for i := range r.seats {
		if s := &r.seats[i]; s.taken && s.thing == thing {
			return s
		}
	}
	return nil
}

func (r *ring) put(thing int) (int, api.Errno) {
	if thing < 0 {
		return 0, api.ErrArg
	}
	if r.find(thing) != nil {
		return 0, api.ErrTwice
	}
	for i := range r.seats {
		if !r.seats[i].taken {
			r.seats[i] = seat{thing, true, true}
			return i, api.OK
		}
	}
	return 0, api.ErrSpace
}

func (r *ring) touch(thing int) api.Errno {
	s := r.find(thing)
	if s == nil {
		return api.ErrNone
	}
	s.marks = true
	return api.OK
}

func (r *ring) drop(thing int) api.Errno {
	s := r.find(thing)
	if s == nil {
		return api.ErrNone
	}
	*s = seat{}
	return api.OK
}

func (r *ring) leave(may []int) (int, api.Errno) {
	if !slices.ContainsFunc(may, func(thing int) bool { return r.find(thing) != nil }) {
		return 0, api.ErrNone
	}
	for {
		s := &r.seats[r.hand]
		if r.hand++; r.hand == len(r.seats) {
			r.hand = 0
		}
		if !s.taken || !slices.Contains(may, s.thing) {
			continue
		}
		if !s.marks {
			thing := s.thing
			*s = seat{}
			return thing, api.OK
		}
		s.marks = false
	}
}

func (r *ring) things() []int {
	var list []int
	for _, s := range r.seats {
		if !s.taken {
			s.thing = -1
		}
		list = append(list, s.thing)
	}
	return list
}

// pair: a clock and what it has to be.
type pair struct {
	*clock.Clock
	said ring
}

func paired(t *testing.T, places int) *pair {
	t.Helper()
	return &pair{made(t, places), ring{seats: make([]seat, places)}}
}

// do: one call of both, Put, Touch, Drop or Leave by its number, answers the same and leaves the same.
func (p *pair) do(t *testing.T, call, thing int, may []int) {
	t.Helper()
	var got, want int
	var e, said api.Errno
	switch call {
	case 0:
		got, e = p.Put(thing)
		want, said = p.said.put(thing)
	case 1:
		e, said = p.Touch(thing), p.said.touch(thing)
	case 2:
		e, said = p.Drop(thing), p.said.drop(thing)
	default:
		got, e = p.Leave(may...)
		want, said = p.said.leave(may)
	}
	if got != want || e != said {
		t.Fatalf("call %d of %d, %v: %d, %d, want %d, %d", call, thing, may, got, e, want, said)
	}
	things(t, p.Clock, p.said.things()...)
}

// end: what can't be asked, marks and the hand, is told by the order in which all leave.
func (p *pair) end(t *testing.T) {
	t.Helper()
	all := p.Things()
	for range all {
		p.do(t, 3, 0, all)
	}
}

// P13.1

func TestPlacesAtTheirEnds(t *testing.T) {
	for _, places := range append(below(), 0, api.MaxList+1, api.MaxList+2, 1<<16, 1<<32, 1<<32+1, math.MaxInt) {
		if c, e := clock.New(places); c != nil || e != api.ErrArg {
			t.Errorf("New(%d) = %v, %d", places, c, e)
		}
	}
	for _, places := range []int{1, 2, 3, 64, api.MaxList - 1, api.MaxList} {
		c := made(t, places)
		things(t, c, slices.Repeat([]int{-1}, places)...)
		notLeft(t, c, api.ErrNone, -1, 0, 1)
		var all []int
		for place := range places {
			put(t, c, 3*place, place)
			all = append(all, 3*place)
		}
		notPut(t, c, 1, api.ErrSpace)
		things(t, c, all...)
		leaveAll(t, c, all...)
	}
}

func TestTheHandIsAtPlace0FirstOfAll(t *testing.T) {
	c := made(t, 4, 10, 11, 12)
	leave(t, c, 10, 12, 11, 10)
	c = made(t, 4, 10, 11, 12)
	leave(t, c, 11, 12, 11)
	c = made(t, 1, 10)
	leave(t, c, 10, 10)
}

// P13.2

func TestThingsComeIntoTheFirstFreePlace(t *testing.T) {
	c := made(t, 4, 20, 21, 22, 23)
	drop(t, c, 22)
	drop(t, c, 20)
	things(t, c, -1, 21, -1, 23)
	put(t, c, 30, 0)
	put(t, c, 31, 2)
	things(t, c, 30, 21, 31, 23)
	drop(t, c, 23)
	put(t, c, 20, 3)
	things(t, c, 30, 21, 31, 20)
}

// The first place is the one with the smallest number, wherever the hand is.
func TestTheFirstFreePlaceIsNotTheHands(t *testing.T) {
	c := made(t, 4, 20, 21, 22, 23)
	leave(t, c, 21, 21)
	leave(t, c, 22, 22)
	drop(t, c, 20)
	drop(t, c, 23)
	put(t, c, 30, 0)
	put(t, c, 31, 1)
	put(t, c, 32, 2)
	put(t, c, 33, 3)
}

func TestThingsAtTheirEnds(t *testing.T) {
	all := ends()
	c := made(t, len(all), all...)
	things(t, c, all...)
	for _, thing := range all {
		notPut(t, c, thing, api.ErrTwice)
		touch(t, c, thing)
	}
	leaveAll(t, c, all...)
	for place, thing := range all {
		put(t, c, thing, place)
	}
	drop(t, c, all...)
	things(t, c, slices.Repeat([]int{-1}, len(all))...)
}

// R2: of several errors the first one that the chapter names.
func TestPutsThatAreRefused(t *testing.T) {
	c := made(t, 3, 10, 11)
	for _, thing := range below() {
		notPut(t, c, thing, api.ErrArg)
	}
	notPut(t, c, 11, api.ErrTwice)
	put(t, c, 12, 2)
	for _, thing := range below() {
		notPut(t, c, thing, api.ErrArg)
	}
	for _, thing := range []int{10, 11, 12} {
		notPut(t, c, thing, api.ErrTwice)
	}
	for _, thing := range ends() {
		notPut(t, c, thing, api.ErrSpace)
	}
	things(t, c, 10, 11, 12)
}

// What Things tells of a free place is no thing that is there.
func TestWhatIsNotThere(t *testing.T) {
	c := made(t, 3, 0, 7)
	notThere(t, c, api.ErrNone, append(below(), ends()[1:]...)...)
	drop(t, c, 7)
	notThere(t, c, api.ErrNone, 7, -1)
	leave(t, c, 0, 0)
	notThere(t, c, api.ErrNone, 0, 7, -1)
	things(t, c, -1, -1, -1)
}

func TestWhatIsPutIsMarked(t *testing.T) {
	c := made(t, 3, 10, 11, 12)
	leave(t, c, 10, 10, 11, 12) // 11 and 12 are not marked any more, the hand is at 11
	put(t, c, 20, 0)
	drop(t, c, 11)
	put(t, c, 21, 1)
	leave(t, c, 12, 12, 20, 21) // 21 is not marked any more, 20 is; the hand is at 20
	leave(t, c, 21, 20, 21)
}

// A mark is not left in the place of what is gone, nor does it lack there.
func TestWhatIsPutAgainIsMarkedAnew(t *testing.T) {
	c := made(t, 2, 10, 11)
	leave(t, c, 10, 10, 11) // 11 is not marked any more, the hand is at 11
	put(t, c, 10, 0)
	drop(t, c, 11)
	put(t, c, 11, 1)
	leave(t, c, 11, 11, 10)
	c = made(t, 2, 10, 11)
	leave(t, c, 10, 10, 11)
	put(t, c, 10, 0)
	leave(t, c, 11, 11, 10)
}

func TestTouchMarks(t *testing.T) {
	c := made(t, 3, 10, 11, 12)
	leave(t, c, 10, 10, 11, 12) // 11 and 12 are not marked any more, the hand is at 11
	touch(t, c, 11)
	leave(t, c, 12, 11, 12)
	touch(t, c, 11, 11, 11)
	put(t, c, 20, 0)
	put(t, c, 22, 2)
	leave(t, c, 20, 11, 20) // 11 and 20 are not marked any more
	leave(t, c, 11, 11, 22)
}

// P13.3

func TestKnownLeaves(t *testing.T) {
	c := made(t, 3, 10, 11, 12)
	leave(t, c, 11, 11, 12) // 12 is not marked any more, 10 is; the hand is at 12
	leave(t, c, 12, 10, 12)
	put(t, c, 21, 1)
	put(t, c, 22, 2)
	leave(t, c, 10, 22, 21, 10) // 21 and 22 are not marked any more; the hand is at 21
	put(t, c, 20, 0)
	leave(t, c, 22, 22, 20)
	leave(t, c, 21, 20, 21)
	leave(t, c, 20, 20)
	notLeft(t, c, api.ErrNone, 20)
}

func TestOthersArePassedOverAsTheyAre(t *testing.T) {
	c := made(t, 4, 10, 11, 12, 13)
	leave(t, c, 13, 13) // the hand went past all of the others twice
	put(t, c, 13, 3)
	leave(t, c, 11, 11, 12) // 10 and 13 are marked still; the hand is at 12
	leave(t, c, 12, 10, 12, 13)
	leave(t, c, 13, 10, 13) // all were looked at from 13 on
	leave(t, c, 10, 10)
}

// Drop takes a thing from under the hand, and the hand stays.
func TestTheHandStays(t *testing.T) {
	c := made(t, 3, 10, 11, 12)
	leave(t, c, 10, 10)
	drop(t, c, 11)
	put(t, c, 20, 0)
	put(t, c, 21, 1)
	touch(t, c, 12, 20)
	leaveAll(t, c, 21, 12, 20)
}

func TestTheHandGoesOnBehindTheLastPlace(t *testing.T) {
	c := made(t, 3, 10, 11, 12)
	leave(t, c, 12, 12)
	put(t, c, 22, 2)
	leaveAll(t, c, 10, 11, 22)
	put(t, c, 30, 0)
	leave(t, c, 30, 30)
	c = made(t, 1, 5)
	for thing := 5; thing < 20; thing++ {
		leave(t, c, thing, thing, 5)
		put(t, c, thing+1, 0)
	}
}

func TestNothingLeaves(t *testing.T) {
	for _, c := range []*clock.Clock{made(t, 3), made(t, 3, 10, 11), made(t, 2, 10, 11)} {
		before := c.Things()
		notLeft(t, c, api.ErrNone)
		notLeft(t, c, api.ErrNone, []int{}...)
		notLeft(t, c, api.ErrNone, -1)
		notLeft(t, c, api.ErrNone, append(below(), ends()...)...)
		notLeft(t, c, api.ErrNone, 12, 9, 12)
		things(t, c, before...)
	}
}

// What may leave may be told in any order, twice, and beside what is not there.
func TestWhoMayLeaveByAnyNumber(t *testing.T) {
	for _, may := range [][]int{{11, 13}, {13, 11}, {13, 13, 11, 11}, {-1, 99, 13, math.MinInt, 11}, slices.Repeat([]int{13, 7, 11}, 100000)} {
		c := made(t, 5, 10, 11, 12, 13)
		leave(t, c, 11, may...)
		leave(t, c, 13, may...)
		notLeft(t, c, api.ErrNone, may...)
		things(t, c, 10, -1, 12, -1, -1)
	}
	var all []int
	for thing := range api.MaxList {
		all = append(all, thing)
	}
	c := made(t, api.MaxList, all...)
	slices.Reverse(all)
	for thing := range 100 {
		leave(t, c, thing, all...)
	}
}

// R3

// What is refused changes nothing: the marks and the hand neither.
func TestWhatIsRefusedChangesNothing(t *testing.T) {
	for seed := range 300 {
		r := random(seed)
		c, d := made(t, 5, 0, 1, 2), made(t, 5, 0, 1, 2)
		for range 40 {
			for _, thing := range append(below(), 50, 99) {
				notThere(t, d, api.ErrNone, thing)
				notLeft(t, d, api.ErrNone, thing)
				notPut(t, d, min(thing, -1), api.ErrArg)
			}
			for _, there := range d.Things() {
				if there >= 0 {
					notPut(t, d, there, api.ErrTwice)
				}
			}
			if !slices.Contains(d.Things(), -1) {
				notPut(t, d, 99, api.ErrSpace)
			}
			thing, may := r.Intn(8), r.Perm(8)[:3]
			switch r.Intn(4) {
			case 0:
				c.Put(thing)
				d.Put(thing)
			case 1:
				c.Touch(thing)
				d.Touch(thing)
			case 2:
				c.Drop(thing)
				d.Drop(thing)
			default:
				got, e := d.Leave(may...)
				if want, said := c.Leave(may...); got != want || e != said {
					t.Fatalf("seed %d: Leave(%v) = %d, %d, want %d, %d", seed, may, got, e, want, said)
				}
			}
			things(t, d, c.Things()...)
		}
	}
}

// All three promises, by all calls up to a number, and by many more of them

func TestAllCallsOfASmallClock(t *testing.T) {
	const kinds, depth = 3*3 + 8, 4
	for _, places := range []int{1, 2, 3} {
		total := 1
		for range depth {
			total *= kinds
		}
		for calls := range total {
			p := paired(t, places)
			for range depth {
				call := calls % kinds
				calls /= kinds
				if call < 9 {
					p.do(t, call/3, call%3, nil)
					continue
				}
				var may []int
				for thing := range 3 {
					if (call-9)>>thing&1 == 1 {
						may = append(may, thing)
					}
				}
				p.do(t, 3, 0, may)
			}
			p.end(t)
		}
	}
}

func TestClocksAreAsItIsSaid(t *testing.T) {
	for seed := range 1500 {
		r := random(seed)
		p := paired(t, 1+r.Intn(9))
		numbers := 1 + r.Intn(14)
		for range 200 {
			var may []int
			for range r.Intn(6) {
				may = append(may, r.Intn(numbers+2)-2)
			}
			p.do(t, r.Intn(4), r.Intn(numbers+2)-2, may)
		}
		p.end(t)
	}
}

// The greatest clock there is.
func TestAGreatClock(t *testing.T) {
	r := random(1)
	p := paired(t, api.MaxList)
	for thing := range api.MaxList {
		if place, e := p.Put(thing); place != thing || e != api.OK {
			t.Fatalf("Put(%d) = %d, %d", thing, place, e)
		}
		p.said.put(thing)
	}
	for range 500 {
		p.do(t, 3, 0, r.Perm(2 * api.MaxList)[:100])
		p.do(t, 0, r.Intn(2*api.MaxList), nil)
		p.do(t, 1, r.Intn(2*api.MaxList), nil)
	}
}

// R1

func TestANilClockIsClosed(t *testing.T) {
	var none *clock.Clock
	for _, thing := range append(below(), ends()...) {
		notPut(t, none, thing, api.ErrClosed)
		notThere(t, none, api.ErrClosed, thing)
		notLeft(t, none, api.ErrClosed, thing, 1)
	}
	notLeft(t, none, api.ErrClosed)
	things(t, none)
}

// A clock that New did not answer has no places.
func TestAClockWithoutAnything(t *testing.T) {
	c := new(clock.Clock)
	things(t, c)
	notPut(t, c, 1, api.ErrSpace)
	notPut(t, c, -1, api.ErrArg)
	notThere(t, c, api.ErrNone, -1, 0, 1)
	notLeft(t, c, api.ErrNone)
	notLeft(t, c, api.ErrNone, -1, 0, 1)
}

// R4

func TestListsAreLeft(t *testing.T) {
	room := []int{5, 10, 11, 10, 12, -1, 99, 6, 7}
	before := slices.Clone(room)
	c := made(t, 3, 10, 11, 12)
	may := room[1:5]
	leave(t, c, 10, may...)
	if !slices.Equal(room, before) {
		t.Errorf("the list, or what stands around it, was changed: %v", room)
	}
	clear(room) // nor is it kept
	leave(t, c, 11, 11, 12)
	leave(t, c, 12, 12)
	if !slices.Equal(room, make([]int, len(room))) {
		t.Errorf("the list is kept: %v", room)
	}
}

func TestThingsAreNewMemory(t *testing.T) {
	c := made(t, 5, 10, 11, 12)
	one, two := c.Things(), c.Things()
	for _, list := range [][]int{one, two} {
		list = list[:cap(list)]
		for i := range list {
			list[i] = 7
		}
		things(t, c, 10, 11, 12, -1, -1)
	}
	clear(one)
	if !slices.Equal(two, []int{7, 7, 7, 7, 7}) {
		t.Errorf("two answers share their memory: %v", two)
	}
	notThere(t, c, api.ErrNone, 7)
	put(t, c, 13, 3)
	leaveAll(t, c, 10, 11, 12, 13)
	if !slices.Equal(two, []int{7, 7, 7, 7, 7}) {
		t.Errorf("an answer changed later: %v", two)
	}
}

// R5

func TestClocksAreApart(t *testing.T) {
	var all []*pair
	for places := 1; places < 6; places++ {
		all = append(all, paired(t, places), paired(t, places))
	}
	r := random(1)
	for range 5000 {
		all[r.Intn(len(all))].do(t, r.Intn(4), r.Intn(7)-1, r.Perm(7)[:r.Intn(4)])
	}
	for _, p := range all {
		p.end(t)
	}
}

func FuzzClocksAgree(f *testing.F) {
	f.Add(3, []byte{0, 10, 0, 11, 0, 12, 3, 2, 11, 12, 0, 20, 1, 12, 3, 3, 10, 12, 20})
	f.Add(1, []byte{0, 1, 0, 1, 0, 2, 0, 255, 3, 0, 3, 1, 255, 2, 1, 2, 255})
	f.Add(0, []byte{})
	f.Fuzz(func(t *testing.T, places int, calls []byte) {
		c, e := clock.New(places)
		if bad := places < 1 || places > 4096; (c == nil) != bad || (e == api.ErrArg) != bad {
			t.Fatalf("New(%d) = %v, %d", places, c, e)
		}
		if c == nil {
			return
		}
		p := &pair{c, ring{seats: make([]seat, places)}}
		for len(calls) > 1 {
			call, b := calls[0]%4, calls[1]
			calls = calls[2:]
			var may []int
			for call == 3 && len(may) < int(b%8) && len(calls) > 0 {
				may = append(may, int(int8(calls[0])))
				calls = calls[1:]
			}
			p.do(t, int(call), int(int8(b)), may)
		}
		if places < 100 {
			p.end(t)
		}
	})
}
