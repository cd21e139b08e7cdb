// Package seal is layer 1: see shared/doc/01-seal.md.
package seal

import (
	"bytes"

	"armillary/api"
)

// Where a frame's parts stand in it: the sum, how many bytes it carries, and these.
const (
	sizeAt  = 4
	carryAt = 6
)

// rests is what is left of each half of a byte that the polynomial divides. Of halves, for a table of whole bytes is longer than a package may hold.
var rests = [16]uint32{
	0x00000000, 0x1db71064, 0x3b6e20c8, 0x26d930ac,
	0x76dc4190, 0x6b6b51f4, 0x4db26158, 0x5005713c,
	0xedb88320, 0xf00f9344, 0xd6d6a3e8, 0xcb61b38c,
	0x9b64c2b0, 0x86d3d2d4, 0xa00ae278, 0xbdbdf21c,
}

// Sum is the CRC-32 of the parts' bytes, one behind the other.
func Sum(parts ...[]byte) uint32 {
	sum := ^uint32(0)
	for _, part := range parts {
		for _, b := range part {
			sum ^= uint32(b)
			sum = sum>>4 ^ rests[sum&15]
			sum = sum>>4 ^ rests[sum&15]
		}
	}
	return ^sum
}

// Frame is a frame of the parts' bytes, one behind the other.
func Frame(parts ...[]byte) ([]byte, api.Errno) {
	size := 0
	for _, part := range parts {
		// Part by part, so that no sum of lengths can wrap round.
		if len(part) > api.MaxFrame-size {
			return nil, api.ErrLong
		}
		size += len(part)
	}
	frame := make([]byte, carryAt, carryAt+size)
	frame[sizeAt] = byte(size)
	frame[sizeAt+1] = byte(size >> 8)
	for _, part := range parts {
		frame = append(frame, part...)
	}
	sum := Sum(frame[sizeAt:])
	for i := range sizeAt {
		frame[i] = byte(sum >> (8 * i))
	}
	return frame, api.OK
}

// Next is what the frame in front of p carries, and what stands behind it.
func Next(p []byte) ([]byte, []byte, api.Errno) {
	end, fault := frameEnd(p)
	if fault != api.OK {
		return nil, nil, fault
	}
	return bytes.Clone(p[carryAt:end]), bytes.Clone(p[end:]), api.OK
}

// Open is what the one frame carries that p is.
func Open(p []byte) ([]byte, api.Errno) {
	end, fault := frameEnd(p)
	if fault != api.OK {
		return nil, fault
	}
	if end < len(p) {
		return nil, api.ErrForm
	}
	return bytes.Clone(p[carryAt:]), api.OK
}

// All is what the frames in front of p carry, and the place where they end.
func All(p []byte) ([][]byte, int) {
	var carried [][]byte
	at := 0
	for {
		// Not by Next, which copies all that stands behind each frame.
		end, fault := frameEnd(p[at:])
		if fault != api.OK {
			return carried, at
		}
		carried = append(carried, bytes.Clone(p[at+carryAt:at+end]))
		at += end
	}
}

// frameEnd is the place in p where the frame in front of it ends, with Next's errors in their order.
func frameEnd(p []byte) (int, api.Errno) {
	if len(p) < carryAt {
		return 0, api.ErrShort
	}
	size := int(p[sizeAt]) | int(p[sizeAt+1])<<8
	if size > api.MaxFrame {
		return 0, api.ErrLong
	}
	end := carryAt + size
	if len(p) < end {
		return 0, api.ErrShort
	}
	if Sum(p[sizeAt:end]) != saidSum(p) {
		return 0, api.ErrSum
	}
	return end, api.OK
}

// saidSum is the sum that p, which has a frame's first bytes, says.
func saidSum(p []byte) uint32 {
	var sum uint32
	for i := range sizeAt {
		sum |= uint32(p[i]) << (8 * i)
	}
	return sum
}
