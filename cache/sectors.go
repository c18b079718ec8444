package cache

import (
	"bytes"

	"stowage/api"
	"stowage/disk"
)

// firstSlot: the sector of the fast disk with which the slots begin, behind the vault's two areas.
const firstSlot = 2 * api.AreaLines

// slotSectors: a slot's head, and what is sealed.
const slotSectors = 2

// slowSectors: those of all blocks that volumes could have.
const slowSectors = api.MaxVolumes * api.MaxBlocks

// headAt: the sector of a slot's head.
func headAt(slot int) int { return firstSlot + slotSectors*slot }

// sealedAt: the sector of what a slot holds.
func sealedAt(slot int) int { return headAt(slot) + 1 }

// slowAt: a block's sector of the slow disk.
func slowAt(at spot) int { return at.volume*api.MaxBlocks + at.block }

// reaches: does a disk have so many sectors? It tells without power.
func reaches(d *disk.Disk, sectors int) bool {
	_, e := d.Lasting(sectors - 1)
	return e == api.OK
}

// read: a sector that is there.
func read(d *disk.Disk, n int) []byte {
	b, e := d.Read(n)
	need(e)
	return b
}

// write: a sector that is there; it may not last.
func write(d *disk.Disk, n int, b []byte) { need(d.Write(n, b)) }

// flush: all that was written to a disk lasts.
func flush(d *disk.Disk) { need(d.Flush()) }

// blank: the bytes of a sector that holds nothing.
func blank() []byte { return make([]byte, api.Sector) }

// isBlank: has a sector that is there such bytes?
func isBlank(d *disk.Disk, n int) bool { return bytes.Equal(read(d, n), blank()) }
