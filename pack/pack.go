// Package pack writes and reads numbers as bytes.
package pack

import "stowage/api"

// maxSize: no uint64 has more bytes.
const maxSize = 8

// Put: a number as so many bytes, the greatest first.
func Put(n uint64, size int) ([]byte, api.Errno) { return join([]int{size}, n) }

// Get: the number that the first so many bytes are.
func Get(b []byte, size int) (uint64, api.Errno) {
	if _, e := extent(size); e != api.OK {
		return 0, e
	}
	if len(b) < size {
		return 0, api.ErrShort
	}
	return number(b[:size]), api.OK
}

// Fields: numbers one behind the other, each of its size.
func Fields(list []uint64, sizes ...int) ([]byte, api.Errno) { return join(sizes, list...) }

// Split: the numbers that bytes are, each of its size.
func Split(b []byte, sizes ...int) ([]uint64, api.Errno) {
	total, e := extent(sizes...)
	if e != api.OK {
		return nil, e
	}
	if len(b) < total {
		return nil, api.ErrShort
	}
	if len(b) > total {
		return nil, api.ErrForm
	}
	list := make([]uint64, len(sizes))
	for i, size := range sizes {
		list[i] = number(b[:size])
		b = b[size:]
	}
	return list, api.OK
}

// join: all sizes are looked at ahead of any number, since ErrArg goes ahead of ErrRange.
func join(sizes []int, numbers ...uint64) ([]byte, api.Errno) {
	total, e := extent(sizes...)
	if e != api.OK {
		return nil, e
	}
	if len(numbers) != len(sizes) {
		return nil, api.ErrArg
	}
	out := make([]byte, 0, total)
	for i, n := range numbers {
		if !fits(n, sizes[i]) {
			return nil, api.ErrRange
		}
		out = add(out, n, sizes[i])
	}
	return out, api.OK
}

// extent: how many bytes sizes have together.
func extent(sizes ...int) (int, api.Errno) {
	if len(sizes) > api.MaxList {
		return 0, api.ErrArg
	}
	total := 0
	for _, size := range sizes {
		if size < 1 || size > maxSize {
			return 0, api.ErrArg
		}
		total += size
	}
	return total, api.OK
}

// fits: of maxSize bytes the shift leaves nothing of n, so that all numbers fit.
func fits(n uint64, size int) bool { return n>>(8*size) == 0 }

// add: a number behind bytes.
func add(out []byte, n uint64, size int) []byte {
	for shift := 8 * (size - 1); shift >= 0; shift -= 8 {
		out = append(out, byte(n>>shift))
	}
	return out
}

// number: the one that all of some bytes are.
func number(b []byte) uint64 {
	n := uint64(0)
	for _, x := range b {
		n = n<<8 | uint64(x)
	}
	return n
}
