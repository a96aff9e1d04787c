package value

import (
	"bytes"

	"flume/api"
	"flume/real"
)

// reader makes things of a key's bytes. It stops at the first error: at is
// then the error's place.
type reader struct {
	b   []byte
	at  int
	err api.Errno
	room
}

func (r *reader) stop(at int, err api.Errno) (thing, bool) {
	r.at, r.err = at, err
	return nil, false
}

// next goes over a byte.
func (r *reader) next() (byte, bool) {
	if r.at == len(r.b) {
		r.err = api.ErrShort
		return 0, false
	}
	c := r.b[r.at]
	r.at++
	return c, true
}

// thing reads what lies within so many lists.
func (r *reader) thing(lists int) (thing, bool) {
	front := r.at
	kind, ok := r.next()
	if !ok {
		return nil, false
	}
	if kind < api.VNil || kind > api.VList {
		return r.stop(front, api.ErrForm)
	}
	// A text's size is known where the text ends, not here.
	if kind != api.VText && !r.spend(1) {
		return r.stop(front, api.ErrLong)
	}
	switch kind {
	case api.VBool:
		return r.truth()
	case api.VInt:
		return r.whole()
	case api.VReal:
		return r.floating()
	case api.VText:
		return r.text(front)
	case api.VList:
		return r.list(front, lists+1)
	}
	return nilThing{}, true
}

func (r *reader) truth() (thing, bool) {
	c, ok := r.next()
	if !ok {
		return nil, false
	}
	if c > 1 {
		return r.stop(r.at-1, api.ErrForm)
	}
	return boolThing(c), true
}

func (r *reader) whole() (thing, bool) {
	n, ok := r.eight()
	if !ok {
		return nil, false
	}
	return intThing(n ^ topBit), true
}

func (r *reader) floating() (thing, bool) {
	front := r.at
	n, ok := r.eight()
	if !ok {
		return nil, false
	}
	x, ok := real.Unkey(n)
	if !ok {
		return r.stop(front, api.ErrForm)
	}
	return realThing(x), true
}

// eight reads a number of eight bytes, the highest first.
func (r *reader) eight() (uint64, bool) {
	var n uint64
	for range 8 {
		c, ok := r.next()
		if !ok {
			return 0, false
		}
		n = n<<8 | uint64(c)
	}
	return n, true
}

// text reads a text whose byte 05 stands at front.
func (r *reader) text(front int) (thing, bool) {
	for size := 1; ; size++ {
		c, ok := r.next()
		if !ok {
			return nil, false
		}
		if c != 0 {
			continue
		}
		mark, ok := r.next()
		switch {
		case !ok:
			return nil, false
		case mark == zeroMark:
			continue
		case mark != endMark:
			return r.stop(r.at-1, api.ErrForm)
		case !r.spend(size):
			return r.stop(front, api.ErrLong)
		}
		return textThing(unmarked(r.b[front+1 : r.at-2])), true
	}
}

// unmarked is a text's bytes without the marks behind its bytes 00.
func unmarked(b []byte) []byte {
	return bytes.ReplaceAll(b, []byte{0, zeroMark}, []byte{0})
}

// list reads the lists-th list within one another, whose byte 06 stands at
// front.
func (r *reader) list(front, lists int) (thing, bool) {
	if lists > api.MaxNest {
		return r.stop(front, api.ErrLong)
	}
	var ts listThing
	for {
		if r.at < len(r.b) && r.b[r.at] == listEnd {
			r.at++
			return ts, true
		}
		t, ok := r.thing(lists)
		if !ok {
			return nil, false
		}
		ts = append(ts, t)
	}
}
