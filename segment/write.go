package segment

import (
	"flume/api"
	"flume/frame"
)

// written is a frame that was made and is not laid yet: how many bytes it has, and its sum.
type written struct {
	size int
	sum  uint32
}

// Put lays records behind the last one, and tells the LSN of the first of them.
func (s *Segment) Put(datas ...[]byte) (int64, api.Errno) {
	if err := s.refuse(datas); err != api.OK {
		return 0, err
	}
	b, frames := s.write(datas)
	err := s.attempt(func() api.Errno {
		_, err := s.disk.Append(s.file, b)
		return err
	})
	if err != api.OK {
		return 0, err
	}
	first := s.next
	for _, f := range frames {
		s.grow(f.size, f.sum)
	}
	return first, api.OK
}

// refuse tells why these records can't be put; OK if they can.
func (s *Segment) refuse(datas [][]byte) api.Errno {
	if !s.made() || s.condition != whole {
		return api.ErrFailed
	}
	if len(datas) == 0 {
		return api.ErrArg
	}
	for _, data := range datas {
		if len(data) > api.MaxData {
			return api.ErrLong
		}
	}
	// How many LSNs are left is no sum with how many are asked for, which might wrap.
	if int64(len(datas)) > api.MaxLSN-s.next+1 {
		return api.ErrEnd
	}
	return api.OK
}

// write makes the frames of records that are to stand behind the last one, in one piece.
func (s *Segment) write(datas [][]byte) ([]byte, []written) {
	var all []byte
	var frames []written
	seed := s.seed
	for i, data := range datas {
		b, sum, _ := frame.Write(seed, s.next+int64(i), data)
		all = append(all, b...)
		frames = append(frames, written{size: len(b), sum: sum})
		seed = sum
	}
	return all, frames
}

// attempt does an operation of the disk. Whichever way that ends but by OK, the segment is broken behind it: also by a panic, which passes on.
func (s *Segment) attempt(operation func() api.Errno) (err api.Errno) {
	err = api.ErrPanic
	defer func() {
		if err != api.OK {
			s.condition = failed
		}
	}()
	err = operation()
	return err
}

// Sync makes what was put last.
func (s *Segment) Sync() api.Errno {
	if !s.made() || s.condition != whole {
		return api.ErrFailed
	}
	return s.attempt(func() api.Errno { return s.disk.Sync(s.file) })
}

// Trim takes away what stood behind the last frame when the file was opened. What an operation has broken it can't mend.
func (s *Segment) Trim() api.Errno {
	if !s.made() || s.condition == failed {
		return api.ErrFailed
	}
	if s.condition == whole {
		return api.OK
	}
	if err := s.disk.Cut(s.file, s.size); err != api.OK {
		return err
	}
	s.condition = whole
	return api.OK
}
