package frame

import (
	"bytes"

	"flume/api"
	"flume/crc"
	"flume/wire"
)

// reader goes over the front of a frame or a head as wire's Reader does, and adds what these have: a title, signed numbers, data whose length stood ahead of it.
type reader struct {
	*wire.Reader
	whole []byte
}

// newReader lets the Reader copy no more than the front, for b may be all of a segment, read frame by frame.
func newReader(b []byte, front int) reader {
	return reader{wire.NewReader(b[:min(front, len(b))]), b}
}

// short tells whether the bytes ended within the fields that were read: nothing else stops a Reader at fixed numbers.
func (r reader) short() bool {
	_, err := r.Err()
	return err != api.OK
}

// number reads 8 bytes; what is too great for a signed number comes as one below 0, which no bounds here let pass.
func (r reader) number() int64 {
	return int64(r.Fixed64())
}

func (r reader) titled() bool {
	return string(wire.Fixed64(r.Fixed64())) == title
}

func (r reader) head() api.Head {
	var h api.Head
	h.Num = r.number()
	h.Base = r.number()
	h.Seed = r.Fixed32()
	return h
}

// behind gives a copy of the n bytes behind the front, and whether there are so many.
func (r reader) behind(n int) ([]byte, bool) {
	rest := r.whole[r.At():]
	if len(rest) < n {
		return nil, false
	}
	return bytes.Clone(rest[:n]), true
}

// Read takes the frame at b's front, behind something whose sum was seed: its record, its size and its sum.
func Read(seed uint32, b []byte) (api.Record, int, uint32, api.Errno) {
	r := newReader(b, frontSize)
	length, lsn, masked := r.Fixed32(), r.number(), r.Fixed32()
	switch {
	case r.short():
		return api.Record{}, 0, 0, api.ErrShort
	case length > api.MaxData:
		return api.Record{}, 0, 0, api.ErrLong
	case !within(lsn, api.MaxLSN):
		return api.Record{}, 0, 0, api.ErrForm
	}
	data, ok := r.behind(int(length))
	if !ok {
		return api.Record{}, 0, 0, api.ErrShort
	}
	sum := frameSum(seed, frameFields(lsn, len(data)), data)
	if crc.Mask(sum) != masked {
		return api.Record{}, 0, 0, api.ErrSum
	}
	return api.Record{LSN: lsn, Data: data}, Size(len(data)), sum, api.OK
}

// ReadHead takes the head at b's front, and tells its sum.
func ReadHead(b []byte) (api.Head, uint32, api.Errno) {
	r := newReader(b, headSize)
	titled, h, masked := r.titled(), r.head(), r.Fixed32()
	switch {
	case r.short():
		return api.Head{}, 0, api.ErrShort
	case !titled || !mayBe(h):
		return api.Head{}, 0, api.ErrForm
	}
	sum := crc.Sum(headFields(h))
	if crc.Mask(sum) != masked {
		return api.Head{}, 0, api.ErrSum
	}
	return h, sum, api.OK
}
