package store

import (
	"math"
	"slices"

	"flume/api"
	"flume/catalog"
	"flume/frame"
)

const headSize = 32 // bytes of a segment without records

// Append puts records behind the last one, and tells the LSN of the first of them.
func (s *Store) Append(datas ...[]byte) (lsn int64, err api.Errno) {
	if err := s.refuseRecords(datas); err != api.OK {
		return 0, err
	}
	runs := s.share(datas)
	if int64(len(runs)-1) > s.rollsLeft() {
		return 0, api.ErrMany
	}
	defer func() {
		if x := recover(); x != nil {
			lsn, err = 0, s.fail(x)
		}
	}()
	s.put(runs[0])
	for _, run := range runs[1:] {
		s.roll()
		s.put(run)
	}
	// Not ahead of the last operation: if one fails, the two stay as they are.
	first := s.next
	s.next += int64(len(datas))
	s.durable = max(s.durable, s.open().Look().Head.Base)
	return first, api.OK
}

// refuseRecords tells why these records can't be put, however many segments there are; OK if they can.
func (s *Store) refuseRecords(datas [][]byte) api.Errno {
	if err := s.refuse(); err != api.OK {
		return err
	}
	if len(datas) == 0 {
		return api.ErrArg
	}
	for _, data := range datas {
		if len(data) > api.MaxData {
			return api.ErrLong
		}
	}
	// How many LSNs are left is no sum with how many are asked for, which might wrap.
	if int64(len(datas)) > api.MaxLSN-s.next+1 {
		return api.ErrEnd
	}
	return api.OK
}

// share parts records into runs: the first one goes to the open segment (it may be empty), each further one to a new segment.
func (s *Store) share(datas [][]byte) [][][]byte {
	l := s.open().Look()
	size, empty := l.Size, l.Next == l.Head.Base
	var runs [][][]byte
	from := 0
	for i, data := range datas {
		n := frame.Size(len(data))
		if !empty && size+n > s.segMax {
			runs = append(runs, datas[from:i])
			from, size = i, headSize
		}
		size, empty = size+n, false
	}
	return append(runs, datas[from:])
}

// rollsLeft tells how many rolls the catalog has room for.
func (s *Store) rollsLeft() int64 {
	n := len(s.catalog.Segs)
	return min(int64(api.MaxSegs-n), math.MaxInt64-s.catalog.Gen, math.MaxInt64-s.catalog.Segs[n-1].Num)
}

func (s *Store) put(run [][]byte) {
	if len(run) > 0 {
		_, err := s.open().Put(run...)
		must(err)
	}
}

// roll seals the open segment, and lays a new one behind it.
func (s *Store) roll() {
	must(s.open().Sync())
	l := s.open().Look()
	rolled, err := catalog.Roll(s.catalog, l.Next, l.Size, l.Seed)
	must(err)
	laid := s.lay(rolled.Segs[len(rolled.Segs)-1])
	s.write(rolled)
	s.segments = append(s.segments, laid)
}

// TruncateFront makes lsn the first record that is there; the segments that are wholly below it go.
func (s *Store) TruncateFront(lsn int64) (err api.Errno) {
	if err := s.refuse(); err != api.OK {
		return err
	}
	switch {
	case lsn <= s.catalog.First:
		return api.OK
	case lsn > s.durable:
		return api.ErrBounds
	case s.catalog.Gen == math.MaxInt64:
		return api.ErrMany
	}
	defer func() {
		if x := recover(); x != nil {
			err = s.fail(x)
		}
	}()
	s.cut(lsn)
	return api.OK
}

// cut writes the catalog that begins at lsn, and only then takes away what that has not: a file that stays behind is removed at the next opening, one that lacks would be missed.
func (s *Store) cut(lsn int64) {
	cut, gone, err := catalog.Cut(s.catalog, lsn)
	must(err)
	var files []string
	for _, g := range s.catalog.Segs[:len(gone)] {
		files = append(files, fileOf(g))
	}
	s.write(cut)
	s.segments = slices.Delete(s.segments, 0, len(gone))
	s.remove(files)
}
