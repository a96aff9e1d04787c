package wal

import (
	"sync"

	"flume/api"
)

// Cursor tells a log's records one behind the other. Several goroutines may
// call one; the zero one is that of a nil log.
type Cursor struct {
	mutex sync.Mutex // ahead of the log's, where both are held
	log   *Log
	at    int64
}

// From gives a cursor that stands at lsn.
func (l *Log) From(lsn int64) *Cursor {
	return &Cursor{log: l, at: lsn}
}

// Next gives the record at which the cursor stands, which lasts then, and goes
// on to the one behind it.
func (c *Cursor) Next() (api.Record, api.Errno) {
	if c == nil {
		return api.Record{}, api.ErrArg
	}
	c.mutex.Lock()
	defer c.mutex.Unlock()
	rec, err := c.log.next(c.at)
	if err == api.OK {
		c.at++
	}
	return rec, err
}

// At tells where the cursor stands.
func (c *Cursor) At() int64 {
	if c == nil {
		return 0
	}
	c.mutex.Lock()
	defer c.mutex.Unlock()
	return c.at
}

// Stand has the cursor stand at lsn.
func (c *Cursor) Stand(lsn int64) {
	if c == nil {
		return
	}
	c.mutex.Lock()
	defer c.mutex.Unlock()
	c.at = lsn
}
