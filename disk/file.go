package disk

import (
	"slices"

	"flume/api"
)

// file is what a name leads to.
type file struct {
	bytes   []byte // as they are read
	lasting []byte // never longer than bytes; what lies beyond its length is the tail
	spoilt  int    // how many of the tail's first bytes are marked: a failed Sync marks all of it, so those that are not are behind them
}

func (f *file) copy() *file {
	return &file{bytes: slices.Clone(f.bytes), lasting: slices.Clone(f.lasting), spoilt: f.spoilt}
}

// tail tells how many bytes do not last.
func (f *file) tail() int {
	return len(f.bytes) - len(f.lasting)
}

func (f *file) spoil() {
	f.spoilt = f.tail()
}

// saved gives the first n bytes of the tail as they come to last.
func (f *file) saved(n int) []byte {
	at := len(f.lasting)
	b := slices.Clone(f.bytes[at : at+n])
	clear(b[:min(f.spoilt, n)])
	return b
}

func (f *file) sync() {
	f.lasting = append(f.lasting, f.saved(f.tail())...)
	f.spoilt = 0
}

func (f *file) cut(size int) {
	f.bytes = f.bytes[:size]
	f.lasting = f.lasting[:min(len(f.lasting), size)]
	f.spoilt = min(f.spoilt, f.tail())
}

// crash leaves of the tail what k says; all of the file lasts then.
func (f *file) crash(k api.Keep) {
	n := within(k.N, f.tail())
	junk := k.Junk[:min(len(k.Junk), f.tail()-n, api.Sector)]
	f.lasting = slices.Concat(f.lasting, f.saved(n), junk)
	f.bytes = slices.Clone(f.lasting)
	f.spoilt = 0
}

// within takes n into the bounds 0 and most.
func within(n, most int) int {
	return min(max(n, 0), most)
}
