package catalog

import (
	"flume/api"
	"flume/crc"
	"flume/wire"
)

const (
	mark    = "FCAT"
	sumSize = 4
)

// Write writes the catalog.
func Write(c api.Catalog) ([]byte, api.Errno) {
	if !May(c) {
		return nil, api.ErrForm
	}
	b := numbers([]byte(mark), c.Gen, c.First, int64(len(c.Segs)))
	for _, s := range c.Segs {
		b = numbers(b, s.Num, s.Base)
		b = append(b, wire.Fixed32(s.Seed)...)
		b = numbers(b, s.End, int64(s.Size))
	}
	return append(b, wire.Fixed32(crc.Sum(b))...), api.OK
}

// numbers writes numbers, none below 0, behind b.
func numbers(b []byte, list ...int64) []byte {
	for _, n := range list {
		b = append(b, wire.Varint(uint64(n))...)
	}
	return b
}

// Read reads the catalog that b is the bytes of.
func Read(b []byte) (api.Catalog, api.Errno) {
	if len(b) < len(mark)+sumSize {
		return api.Catalog{}, api.ErrShort
	}
	if string(b[:len(mark)]) != mark {
		return api.Catalog{}, api.ErrForm
	}
	end := len(b) - sumSize
	if wire.NewReader(b[end:]).Fixed32() != crc.Sum(b[:end]) {
		return api.Catalog{}, api.ErrSum
	}
	return readBetween(wire.NewReader(b[len(mark):end]))
}

// readBetween reads what stands between the mark and the sum, which r goes over: all of it. It asks for an error once, at the end: r stops at the first one.
func readBetween(r *wire.Reader) (api.Catalog, api.Errno) {
	var c api.Catalog
	c.Gen = readNumber(r)
	c.First = readNumber(r)
	for range r.Varint(api.MaxSegs) {
		c.Segs = append(c.Segs, readSeg(r))
	}
	_, err := r.Err()
	switch {
	case err == api.ErrShort:
		return api.Catalog{}, api.ErrShort
	case err != api.OK || r.Left() > 0 || !May(c):
		return api.Catalog{}, api.ErrForm
	}
	return c, api.OK
}

func readSeg(r *wire.Reader) api.Seg {
	var s api.Seg
	s.Num = readNumber(r)
	s.Base = readNumber(r)
	s.Seed = r.Fixed32()
	s.End = readNumber(r)
	s.Size = int(readNumber(r))
	return s
}

func readNumber(r *wire.Reader) int64 {
	return int64(r.Varint(maxNumber))
}
