package index

import (
	"math"

	"flume/api"
	"flume/crc"
	"flume/wire"
)

const sumSize = 4

// Bytes writes the index.
func (x *Index) Bytes() []byte {
	if x == nil || x.step == 0 {
		x = &Index{step: 1}
	}
	b := wire.Varint(uint64(x.step))
	b = append(b, wire.Varint(uint64(len(x.entries)))...)
	// Ahead of the first entry stands none: its differences to zeros are its own numbers.
	var ahead api.Entry
	for _, e := range x.entries {
		b = append(b, wire.Varint(uint64(e.LSN-ahead.LSN))...)
		b = append(b, wire.Varint(uint64(e.Off-ahead.Off))...)
		ahead = e
	}
	return append(b, wire.Fixed32(crc.Sum(b))...)
}

// Load reads the index that b is the bytes of; its last entry counts as told last.
func Load(b []byte) (*Index, api.Errno) {
	if len(b) < sumSize {
		return nil, api.ErrShort
	}
	end := len(b) - sumSize
	if wire.NewReader(b[end:]).Fixed32() != crc.Sum(b[:end]) {
		return nil, api.ErrSum
	}
	return read(wire.NewReader(b[:end]))
}

// read reads what stands ahead of the sum, which r goes over: all of it.
func read(r *wire.Reader) (*Index, api.Errno) {
	step, err := field(r, 1, maxStep)
	if err != api.OK {
		return nil, err
	}
	count, err := field(r, 0, math.MaxUint64)
	if err != api.OK {
		return nil, err
	}
	x := &Index{step: int(step)}
	// The count may say anything: room is made only for the entries that are there.
	for range count {
		if err := x.readEntry(r); err != api.OK {
			return nil, err
		}
	}
	if r.Left() > 0 {
		return nil, api.ErrForm
	}
	return x, api.OK
}

// readEntry reads an entry and lays it behind those that there are. What its numbers may come to at most bounds their differences, so that no sum wraps.
func (x *Index) readEntry(r *wire.Reader) api.Errno {
	apart := x.step
	if len(x.entries) == 0 {
		apart = 0
	}
	lsn, err := field(r, 1, uint64(maxLSN-x.last.LSN))
	if err != api.OK {
		return err
	}
	off, err := field(r, uint64(apart), uint64(maxOff-x.last.Off))
	if err != api.OK {
		return err
	}
	x.last = api.Entry{LSN: x.last.LSN + int64(lsn), Off: x.last.Off + int(off)}
	x.entries = append(x.entries, x.last)
	return api.OK
}

// field reads a varint of least to most. Whatever else is wrong with it than that the bytes end within is one of form.
func field(r *wire.Reader, least, most uint64) (uint64, api.Errno) {
	n := r.Varint(most)
	_, err := r.Err()
	switch {
	case err == api.ErrShort:
		return 0, api.ErrShort
	case err != api.OK || n < least:
		return 0, api.ErrForm
	}
	return n, api.OK
}
