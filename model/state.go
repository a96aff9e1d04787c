package model

import (
	"bytes"
	"math"
	"slices"

	"flume/api"
)

// state is a log's state that a call changes. It is a copy, but for its records, whose memory is that of the state that was handed in.
type state api.Model

// refusal goes up where a result may not be.
type refusal struct{}

func must(may bool) {
	if !may {
		panic(refusal{})
	}
}

// fits tells whether a call has a kind, and nothing that this kind does not use.
func fits(c api.Call) bool {
	switch c.Kind {
	case api.CallAppend, api.CallAsync:
		return c.LSN == 0
	case api.CallRead, api.CallNext, api.CallTruncate:
		return len(c.Data) == 0
	case api.CallSync, api.CallClose:
		return c.LSN == 0 && len(c.Data) == 0
	}
	return false
}

// bare tells whether a result is its error alone.
func bare(r api.Result) bool {
	return r.LSN == 0 && len(r.Data) == 0
}

// answer has the state go on as it does when c was answered with r.
func (s *state) answer(c api.Call, r api.Result) {
	must(fits(c))
	if r.Err == api.ErrClosed {
		must(s.Closed && bare(r))
		return
	}
	must(!s.Closed) // a closed log has no other answer
	switch c.Kind {
	case api.CallAppend, api.CallAsync:
		s.append(c, r)
	case api.CallSync:
		s.sync(r)
	case api.CallRead, api.CallNext:
		s.read(c, r)
	case api.CallTruncate:
		s.truncate(c.LSN, r)
	case api.CallClose:
		s.close(r)
	}
}

// take has the state go on as it does when c took effect, whoever was told of it.
func (s *state) take(c api.Call) {
	must(fits(c))
	switch c.Kind {
	case api.CallAppend, api.CallAsync:
		// That an Append lasts is said of one that was done alone: Limit does not bound this one.
		s.answer(api.Call{Kind: api.CallAsync, Data: c.Data}, api.Result{LSN: s.Next})
	case api.CallTruncate:
		s.answer(c, api.Result{})
	case api.CallClose:
		must(!s.Closed)
		s.Closed = true
	default:
		must(false)
	}
}

func (s *state) append(c api.Call, r api.Result) {
	must(len(r.Data) == 0)
	switch {
	case r.Err == api.OK:
		must(c.Kind == api.CallAsync || r.LSN < s.Limit)
		s.reserve(c.Data, r.LSN)
	case r.Err == api.ErrFailed && r.LSN != 0:
		s.reserve(c.Data, r.LSN)
		s.lose(r.LSN)
	default:
		must(r.LSN == 0)
		s.refuse(r.Err)
	}
}

// reserve takes data as the next record, with that number.
func (s *state) reserve(data []byte, lsn int64) {
	must(!s.Failed && len(data) <= api.MaxData && lsn == s.Next && lsn <= api.MaxLSN)
	s.Records = append(slices.Clip(s.Records), data) // the spare room is not ours
	s.Next++
}

// lose has no record from lsn on last, ever.
func (s *state) lose(lsn int64) {
	must(lsn >= s.Durable)
	s.Limit = min(s.Limit, lsn)
}

// refuse has an Append or Async come to an error without a number.
func (s *state) refuse(err api.Errno) {
	switch err {
	case api.ErrFailed:
		s.Failed = true
	case api.ErrLong, api.ErrMany:
		must(!s.Failed)
	case api.ErrEnd:
		must(!s.Failed && s.Next == math.MaxInt64)
	default:
		must(false)
	}
}

func (s *state) sync(r api.Result) {
	must(bare(r))
	switch r.Err {
	case api.OK:
		must(!s.Failed && s.Next <= s.Limit)
	case api.ErrFailed:
		s.Failed = true
	default:
		must(false)
	}
}

// read is of Read and of Next.
func (s *state) read(c api.Call, r api.Result) {
	if r.Err == api.OK {
		must(r.LSN == c.LSN && s.reserved(c.LSN) && s.has(c.LSN, r.Data))
		s.raise(c.LSN + 1)
		return
	}
	must(bare(r))
	switch {
	case r.Err == api.ErrTruncated:
		must(c.LSN < s.First)
	case r.Err == api.ErrDown:
		must(s.reserved(c.LSN))
	case r.Err == api.ErrNotYet && c.Kind == api.CallRead:
		must(c.LSN >= s.Durable && c.LSN >= s.First)
	case r.Err == api.ErrFailed && c.Kind == api.CallNext:
		must(c.LSN >= s.Durable)
		s.Failed = true
	default:
		must(false)
	}
}

// reserved tells whether lsn is the number of a record that is not below the front.
func (s *state) reserved(lsn int64) bool {
	return s.First <= lsn && lsn < s.Next
}

// has tells whether data is the record lsn.
func (s *state) has(lsn int64, data []byte) bool {
	if lsn < s.Base {
		return false
	}
	at := uint64(lsn) - uint64(s.Base) // of a Base below 0 an int64 might not hold it
	return at < uint64(len(s.Records)) && bytes.Equal(s.Records[at], data)
}

// raise has all below lsn last.
func (s *state) raise(lsn int64) {
	if s.Durable < lsn {
		must(lsn <= s.Limit)
		s.Durable = lsn
	}
}

func (s *state) truncate(lsn int64, r api.Result) {
	must(len(r.Data) == 0)
	if r.Err == api.ErrFailed && r.LSN != 0 { // it failed when the front was cut already
		must(r.LSN == lsn && lsn > s.First)
		s.cut(lsn)
		s.Failed = true
		return
	}
	must(r.LSN == 0)
	if r.Err == api.ErrFailed {
		s.Failed = true
		return
	}
	must(!s.Failed)
	switch r.Err {
	case api.OK:
		s.cut(lsn)
	case api.ErrBounds:
		must(lsn > s.Durable && lsn > s.First)
	case api.ErrMany:
	default:
		must(false)
	}
}

// cut has the log begin at lsn, unless it begins there or beyond already.
func (s *state) cut(lsn int64) {
	must(lsn <= s.First || lsn <= s.Next)
	s.raise(lsn)
	s.First = max(s.First, lsn)
}

func (s *state) close(r api.Result) {
	must(bare(r))
	switch r.Err {
	case api.OK:
		must(!s.Failed && s.Next <= s.Limit)
	case api.ErrFailed:
		s.Failed = true
	default:
		must(false)
	}
	s.Closed = true
}
