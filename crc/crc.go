// Package crc is layer 1: CRC-32C checksums, and frames that tell what was spoilt.
package crc

import (
	"bytes"

	"dragnet/api"
)

// A frame is a length, a payload and a checksum; the length and the checksum take wordSize bytes each.
const (
	wordSize  = 4
	frameCost = 2 * wordSize
)

// fourShifts[h] is what four shifts make of a register that holds h alone.
// Shifting distributes over exclusive or, so half a byte at a time is enough, and the table stays short.
var fourShifts = [16]uint32{
	0x00000000, 0x105ec76f, 0x20bd8ede, 0x30e349b1,
	0x417b1dbc, 0x5125dad3, 0x61c69362, 0x7198540d,
	0x82f63b78, 0x92a8fc17, 0xa24bb5a6, 0xb21572c9,
	0xc38d26c4, 0xd3d3e1ab, 0xe330a81a, 0xf36e6f75,
}

// Sum returns the checksum of b.
func Sum(b []byte) uint32 {
	return More(0, b)
}

// More returns the checksum of bytes whose checksum is c, followed by b.
func More(c uint32, b []byte) uint32 {
	r := ^c // a checksum is the inverted register, so this is where it stood
	for _, x := range b {
		r ^= uint32(x)
		r = r>>4 ^ fourShifts[r&15]
		r = r>>4 ^ fourShifts[r&15]
	}
	return ^r
}

// Wrap returns the frame of p, or ErrLong.
func Wrap(p []byte) ([]byte, api.Errno) {
	if len(p) > api.MaxFrame {
		return nil, api.ErrLong
	}
	b := make([]byte, 0, len(p)+frameCost)
	b = appendWord(b, uint32(len(p)))
	b = append(b, p...)
	return appendWord(b, Sum(b)), api.OK
}

// Unwrap returns the payload of b, which must be one frame and nothing more.
func Unwrap(b []byte) ([]byte, api.Errno) {
	size, e := frameSize(b)
	if e != api.OK {
		return nil, e
	}
	if len(b) > size {
		return nil, api.ErrForm
	}
	return payload(b)
}

// First returns the payload of the frame that b begins with, and the frame's size.
func First(b []byte) (p []byte, size int, e api.Errno) {
	size, e = frameSize(b)
	if e != api.OK {
		return nil, 0, e
	}
	p, e = payload(b[:size])
	if e != api.OK {
		return nil, 0, e
	}
	return p, size, api.OK
}

// Split returns the payloads of the frames that b begins with, their size together,
// and the error that ended them before the end of b, if one did.
func Split(b []byte) (list [][]byte, size int, e api.Errno) {
	for size < len(b) {
		p, n, wrong := First(b[size:])
		if wrong != api.OK {
			return list, size, wrong
		}
		list = append(list, p)
		size += n
	}
	return list, size, api.OK
}

// frameSize returns the size of the frame that b begins with, whatever its checksum.
func frameSize(b []byte) (int, api.Errno) {
	if len(b) < frameCost {
		return 0, api.ErrShort
	}
	n := readWord(b)
	if n > api.MaxFrame { // compared before it becomes an int, which may be too small for it
		return 0, api.ErrLong
	}
	size := int(n) + frameCost
	if len(b) < size {
		return 0, api.ErrShort
	}
	return size, api.OK
}

// payload returns a copy of what frame holds, if its checksum is right; frame has the size that it tells.
func payload(frame []byte) ([]byte, api.Errno) {
	end := len(frame) - wordSize
	if Sum(frame[:end]) != readWord(frame[end:]) {
		return nil, api.ErrSum
	}
	return bytes.Clone(frame[wordSize:end]), api.OK
}

// appendWord appends the four bytes of w to b, the least significant first.
func appendWord(b []byte, w uint32) []byte {
	return append(b, byte(w), byte(w>>8), byte(w>>16), byte(w>>24))
}

// readWord returns the number that appendWord wrote as the first four bytes of b.
func readWord(b []byte) uint32 {
	return uint32(b[0]) | uint32(b[1])<<8 | uint32(b[2])<<16 | uint32(b[3])<<24
}
