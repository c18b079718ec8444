package vault

import (
	"slices"

	"stowage/api"
	"stowage/disk"
	"stowage/line"
	"stowage/table"
)

// areas: so many of them begin a disk.
const areas = 2

// maxGeneration: the greatest one that a line may have.
const maxGeneration = 1<<31 - 1

// log is an area of a disk with lines of one generation: so many of its sectors are used, and behind them stands no line of that generation.
type log struct{ area, generation, used int }

// holding is what an area holds: transactions of a generation. Without one it holds nothing.
type holding struct {
	area, generation int
	whole            [][]api.Rec
}

// hasAreas: does a disk have enough sectors? It tells without power.
func hasAreas(d *disk.Disk) bool {
	_, e := d.Lasting(areas*api.AreaLines - 1)
	return e == api.OK
}

// place: the sector of a disk that is the one of an area.
func place(area, i int) int { return area*api.AreaLines + i }

// sectors: of an area.
func sectors(d *disk.Disk, area int) ([][]byte, api.Errno) {
	var list [][]byte
	for i := range api.AreaLines {
		b, e := d.Read(place(area, i))
		if e != api.OK {
			return nil, e
		}
		list = append(list, b)
	}
	return list, api.OK
}

// held: what an area holds.
func held(d *disk.Disk, area int) (holding, api.Errno) {
	list, e := sectors(d, area)
	if e != api.OK {
		return holding{}, e
	}
	// What is no line has none of these transactions, whichever generation is asked for.
	first, _ := line.Decode(list[0])
	return holding{area: area, generation: first.Generation, whole: line.Replay(list, first.Generation)}, api.OK
}

// newestHeld: what is held of the greatest generation. Where nothing is held it is nothing of the last area, so that the first one is written next.
func newestHeld(d *disk.Disk) (holding, api.Errno) {
	newest := holding{area: areas - 1}
	for area := range areas {
		h, e := held(d, area)
		if e != api.OK {
			return holding{}, e
		}
		if h.over(newest) {
			newest = h
		}
	}
	return newest, api.OK
}

// over: does it count more than another one, that stands ahead of it?
func (h holding) over(o holding) bool {
	return len(h.whole) > 0 && (len(o.whole) == 0 || h.generation > o.generation)
}

// room: for so many lines.
func (l log) room() int { return api.AreaLines - l.used }

// add: changes as one transaction, which lasts. Of its lines none counts, if one of them does not last.
func (l log) add(d *disk.Disk, list []api.Rec) (log, api.Errno) {
	for i, r := range list {
		// What a table takes, and what makes one, is within a line's bounds.
		b, _ := line.Encode(api.Line{Generation: l.generation, Seq: l.used, Last: i == len(list)-1, Rec: r})
		if e := d.Write(place(l.area, l.used), b); e != api.OK {
			return log{}, e
		}
		l.used++
	}
	return l, d.Flush()
}

// move: a table to the other area, in a generation of its own.
func (l log) move(d *disk.Disk, t api.Table) (log, api.Errno) {
	to := areas - 1 - l.area
	old, e := sectors(d, to)
	if e != api.OK {
		return log{}, e
	}
	list, _ := table.Image(t)
	if len(list) == 0 {
		// An area without a line holds nothing.
		list = []api.Rec{{Kind: api.RecNone}}
	}
	next, e := log{area: to, generation: unused(old, l.generation)}.add(d, list)
	if e == api.OK && next.generation < l.generation {
		e = l.end(d)
	}
	return next, e
}

// end: the area holds nothing any more. Behind the greatest generation they begin anew, and what is written then counts only when that one is not held.
func (l log) end(d *disk.Disk) api.Errno {
	if e := d.Write(place(l.area, 0), make([]byte, api.Sector)); e != api.OK {
		return e
	}
	return d.Flush()
}

// unused: the next generation of which no line stands in an area: what is left there of one that was cut off would count with new lines of it.
func unused(area [][]byte, generation int) int {
	var taken []int
	for _, b := range area {
		if l, e := line.Decode(b); e == api.OK {
			taken = append(taken, l.Generation)
		}
	}
	next := following(generation)
	for slices.Contains(taken, next) {
		next = following(next)
	}
	return next
}

// following: behind the greatest generation it begins anew. Generation 0 is never written: it is that of a disk that keeps nothing.
func following(generation int) int { return generation%maxGeneration + 1 }
