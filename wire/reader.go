package wire

import (
	"bytes"

	"flume/api"
)

// Reader goes over bytes of its own, field by field, and stops at the first error, so that whoever reads many fields asks once, at the end, whether all were there. A nil one, and the zero one, read as one of no bytes.
type Reader struct {
	data []byte
	at   int
	err  api.Errno
}

// failure is what a read that fails panics with: the reading methods recover it, no caller sees it.
type failure api.Errno

// NewReader makes a Reader of a copy of b, so that whoever writes into b later changes nothing here.
func NewReader(b []byte) *Reader {
	return &Reader{data: bytes.Clone(b)}
}

// Varint reads a varint that is at most most.
func (r *Reader) Varint(most uint64) uint64 {
	defer func() { r.stop(recover()) }()
	return r.varint(most)
}

// Signed reads a signed number: a varint that Zag makes one.
func (r *Reader) Signed() int64 {
	defer func() { r.stop(recover()) }()
	return Zag(r.varint(1<<64 - 1))
}

// Fixed32 reads 4 bytes, the lowest first.
func (r *Reader) Fixed32() uint32 {
	defer func() { r.stop(recover()) }()
	return uint32(readFixed(r.take(4)))
}

// Fixed64 reads 8 bytes, the lowest first.
func (r *Reader) Fixed64() uint64 {
	defer func() { r.stop(recover()) }()
	return readFixed(r.take(8))
}

// String reads a string of most bytes at most.
func (r *Reader) String(most int) []byte {
	defer func() { r.stop(recover()) }()
	s, size, err := ReadString(r.rest(), most)
	check(err)
	r.take(size)
	return s
}

// Byte reads a byte.
func (r *Reader) Byte() byte {
	defer func() { r.stop(recover()) }()
	return r.take(1)[0]
}

// Left tells how many bytes stand from At on.
func (r *Reader) Left() int {
	if r == nil {
		return 0
	}
	return len(r.data) - r.at
}

// At tells where the next field begins or, of a reader that stopped, the field that could not be read.
func (r *Reader) At() int {
	if r == nil {
		return 0
	}
	return r.at
}

// Err tells where the reader stopped, and why; as long as it did not, 0 and OK.
func (r *Reader) Err() (int, api.Errno) {
	if r == nil || r.err == api.OK {
		return 0, api.OK
	}
	return r.at, r.err
}

func (r *Reader) varint(most uint64) uint64 {
	n, size, err := ReadVarint(r.rest())
	check(err)
	if n > most {
		check(api.ErrLong)
	}
	r.take(size)
	return n
}

// take goes on behind the next n bytes; it moves only when all of them are there.
func (r *Reader) take(n int) []byte {
	rest := r.rest()
	if len(rest) < n {
		check(api.ErrShort)
	}
	r.at += n
	return rest[:n]
}

// rest fails again, with the first error, once the reader stopped: so every read behind it answers a zero value.
func (r *Reader) rest() []byte {
	if r == nil {
		return nil
	}
	check(r.err)
	return r.data[r.at:]
}

func check(err api.Errno) {
	if err != api.OK {
		panic(failure(err))
	}
}

// stop keeps the error of a read that failed. A nil Reader has nowhere to keep it. What is no failure is a fault of the program, not of the bytes: it is not hidden.
func (r *Reader) stop(p any) {
	switch f := p.(type) {
	case nil:
	case failure:
		if r != nil {
			r.err = api.Errno(f)
		}
	default:
		panic(p)
	}
}
