// Package wire: numbers and byte strings as bytes: see doc/01-wire.md.
package wire

import (
	"bytes"

	"flume/api"
)

const (
	groupBits = 7
	moreBit   = 1 << groupBits // set in every byte of a varint but its last
	maxVarint = 10             // bytes: nine groups of seven bits, and one bit
)

// Varint writes n as a varint.
func Varint(n uint64) []byte {
	return appendVarint(nil, n)
}

func appendVarint(b []byte, n uint64) []byte {
	for n >= moreBit {
		b = append(b, byte(n%moreBit)|moreBit)
		n >>= groupBits
	}
	return append(b, byte(n))
}

// Zig makes an unsigned number of a signed one, so that those near 0 stay short as varints.
func Zig(n int64) uint64 {
	if n >= 0 {
		return 2 * uint64(n)
	}
	// -(n + 1), for -n of the least number is none of int64's.
	return 2*uint64(-(n+1)) + 1
}

// Zag undoes Zig.
func Zag(u uint64) int64 {
	half := int64(u / 2)
	if u%2 == 0 {
		return half
	}
	return -half - 1
}

// Fixed32 writes n in 4 bytes, the lowest first.
func Fixed32(n uint32) []byte {
	return fixed(uint64(n), 4)
}

// Fixed64 writes n in 8 bytes, the lowest first.
func Fixed64(n uint64) []byte {
	return fixed(n, 8)
}

func fixed(n uint64, size int) []byte {
	b := make([]byte, size)
	for i := range b {
		b[i] = byte(n >> (8 * i))
	}
	return b
}

func readFixed(b []byte) uint64 {
	var n uint64
	for i, c := range b {
		n |= uint64(c) << (8 * i)
	}
	return n
}

// String writes b's length as a varint, then b.
func String(b []byte) []byte {
	s := make([]byte, 0, maxVarint+len(b))
	return append(appendVarint(s, uint64(len(b))), b...)
}

// ReadVarint reads the varint at b's front and tells how many bytes it has.
func ReadVarint(b []byte) (uint64, int, api.Errno) {
	var n uint64
	for i, c := range b {
		// The tenth group has room for one bit only: more, or an eleventh group, would fall off the number's top.
		if i == maxVarint-1 && c > 1 {
			return 0, 0, api.ErrForm
		}
		n |= uint64(c%moreBit) << (groupBits * i)
		if c >= moreBit {
			continue
		}
		// A last group of 0 adds nothing: a shorter form says the same number.
		if i > 0 && c == 0 {
			return 0, 0, api.ErrForm
		}
		return n, i + 1, api.OK
	}
	return 0, 0, api.ErrShort
}

// ReadString reads the string at b's front, of most bytes at most, and tells how many bytes it takes with its length.
func ReadString(b []byte, most int) ([]byte, int, api.Errno) {
	if most < 0 {
		return nil, 0, api.ErrArg
	}
	length, front, err := ReadVarint(b)
	if err != api.OK {
		return nil, 0, err
	}
	// Held against each other as uint64: a length from 2^63 on is no int.
	if length > uint64(most) {
		return nil, 0, api.ErrLong
	}
	if length > uint64(len(b)-front) {
		return nil, 0, api.ErrShort
	}
	end := front + int(length)
	return bytes.Clone(b[front:end]), end, api.OK
}
