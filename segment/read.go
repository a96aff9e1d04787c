package segment

import (
	"flume/api"
	"flume/frame"
	"flume/wire"
)

// Read reads a record from the disk anew: the frames from the index's entry to its own, each checked behind the one ahead.
func (s *Segment) Read(lsn int64) (api.Record, api.Errno) {
	switch {
	case !s.made():
		return api.Record{}, api.ErrFailed
	case lsn < s.head.Base || lsn >= s.next:
		return api.Record{}, api.ErrNone
	}
	at, _ := s.index.Find(lsn)
	seed := s.seeds[at.LSN]
	for {
		rec, size, sum, err := s.readFrame(at, seed)
		if err != api.OK || at.LSN == lsn {
			return rec, err
		}
		at, seed = api.Entry{LSN: at.LSN + 1, Off: at.Off + size}, sum
	}
}

// readFrame reads the frame that should stand there behind seed: its record, its size and its sum.
func (s *Segment) readFrame(at api.Entry, seed uint32) (api.Record, int, uint32, api.Errno) {
	b, err := s.frameBytes(at.Off)
	if err != api.OK {
		return api.Record{}, 0, 0, err
	}
	rec, size, sum, err := frame.Read(seed, b)
	if err != api.OK || rec.LSN != at.LSN {
		return api.Record{}, 0, 0, api.ErrCorrupt
	}
	return rec, size, sum, api.OK
}

// frameBytes reads the bytes of the frame that begins at off. It asks for none behind them: they may be gone, if the file was changed beneath, and are not needed.
func (s *Segment) frameBytes(off int) ([]byte, api.Errno) {
	left := s.size - off
	front, err := s.disk.Read(s.file, off, min(frontSize, left))
	if err != api.OK {
		return nil, err
	}
	size := frame.Size(int(wire.NewReader(front).Fixed32()))
	if size == 0 || size > left {
		return nil, api.ErrCorrupt
	}
	return s.disk.Read(s.file, off, size)
}
