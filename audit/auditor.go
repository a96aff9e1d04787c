package audit

import (
	"iter"
	"maps"
	"slices"

	"flume/api"
	"flume/catalog"
	"flume/frame"
	"flume/name"
	"flume/scan"
)

const headSize = 32 // bytes of a segment's file ahead of its first frame

// What is found: the Code of a finding.
const (
	noCatalog  = iota + 1
	badCatalog // catalog.Read refuses it
	noSegment
	badHead     // none, or not the catalog's
	otherSize   // of a sealed one, as each down to otherSeed
	otherFrames // fewer, more or longer than the catalog says
	otherSeed   // the next one is not chained to it
	stray       // a log's file by its name, that the log has no use for
	foreign     // no log's file
	tail        // bytes behind the open one's last frame
	lateFirst   // the open one ends ahead of First
)

// Kinds of names (name.Kind).
const (
	kindNone    = 0
	kindSegment = 1
	kindNext    = 3
	kindOther   = 4
)

// auditor knows a log's files by name, and gathers what is found of them.
type auditor struct {
	files   map[string][]byte
	catalog api.Catalog
	next    int64 // the LSN that the open segment's scan wants
	found   []api.Finding
}

// look goes over the files as a log's. Their bytes are not copied: the auditor is gone when the call that asked for it answers.
func look(fs []api.File) *auditor {
	a := &auditor{files: make(map[string][]byte, len(fs))}
	for _, f := range fs {
		if _, known := a.files[f.Name]; !known {
			a.files[f.Name] = f.Bytes
		}
	}
	if a.readCatalog() {
		a.checkSegments()
	}
	a.checkOthers()
	return a
}

func (a *auditor) tell(code int, file string, at int64) {
	a.found = append(a.found, api.Finding{Code: code, Name: file, At: at})
}

// readCatalog tells whether there is a catalog to go by.
func (a *auditor) readCatalog() bool {
	b, there := a.files[name.Catalog()]
	if !there {
		a.tell(noCatalog, name.Catalog(), 0)
		return false
	}
	c, err := catalog.Read(b)
	if err != api.OK {
		a.tell(badCatalog, name.Catalog(), int64(err))
		return false
	}
	a.catalog = c
	return true
}

func (a *auditor) checkSegments() {
	segs := a.catalog.Segs
	last := len(segs) - 1
	for i, g := range segs[:last] {
		a.checkSealed(g, segs[i+1].Seed)
	}
	a.checkOpen(segs[last])
}

// checkSealed holds a sealed segment's file against the catalog; seed is what the catalog has of the next one.
func (a *auditor) checkSealed(g api.Seg, seed uint32) {
	frames, sum, ok := a.behindHead(g)
	if !ok {
		return
	}
	s := scan.Over(frames, g.Base, sum)
	size := headSize + len(frames)
	if size != g.Size {
		a.tell(otherSize, fileOf(g), int64(size))
	}
	fits := s.Next == g.End && headSize+s.End == g.Size
	if !fits {
		a.tell(otherFrames, fileOf(g), s.Next)
	}
	// The seed of other frames says nothing of the next segment.
	if fits && size == g.Size && s.Seed != seed {
		a.tell(otherSeed, fileOf(g), 0)
	}
}

func (a *auditor) checkOpen(g api.Seg) {
	frames, sum, ok := a.behindHead(g)
	if !ok {
		return
	}
	s := scan.Over(frames, g.Base, sum)
	if s.End < len(frames) {
		a.tell(tail, fileOf(g), int64(len(frames)-s.End))
	}
	if a.catalog.First > s.Next {
		a.tell(lateFirst, name.Catalog(), a.catalog.First)
	}
	a.next = s.Next
}

// behindHead gives the bytes of a segment's file that should be frames, and the sum that the first one is chained to; false where there is no such file, or its head is not what the catalog says, which it tells.
func (a *auditor) behindHead(g api.Seg) ([]byte, uint32, bool) {
	b, there := a.files[fileOf(g)]
	if !there {
		a.tell(noSegment, fileOf(g), 0)
		return nil, 0, false
	}
	h, sum, err := frame.ReadHead(b)
	if err != api.OK || h != (api.Head{Num: g.Num, Base: g.Base, Seed: g.Seed}) {
		a.tell(badHead, fileOf(g), 0)
		return nil, 0, false
	}
	return b[headSize:], sum, true
}

// checkOthers tells of the files that are none of the log's, by name.
func (a *auditor) checkOthers() {
	for _, file := range slices.Sorted(maps.Keys(a.files)) {
		switch name.Kind(file) {
		case kindSegment:
			if !a.belongs(file) {
				a.tell(stray, file, 0)
			}
		case kindNext:
			a.tell(stray, file, 0)
		case kindOther, kindNone:
			a.tell(foreign, file, 0)
		}
	}
}

// belongs tells whether a segment's file is the catalog's. (Without a catalog none is.)
func (a *auditor) belongs(file string) bool {
	return slices.ContainsFunc(a.catalog.Segs, func(g api.Seg) bool { return fileOf(g) == file })
}

// records goes over the records of a sound log from an LSN on that is at least First.
func (a *auditor) records(from int64) iter.Seq[api.Record] {
	return func(yield func(api.Record) bool) {
		at, _ := catalog.At(a.catalog, from)
		for _, g := range a.catalog.Segs[at:] {
			frames, sum, _ := a.behindHead(g)
			for _, rec := range scan.Each(frames, g.Base, sum) {
				if rec.LSN >= from && !yield(rec) {
					return
				}
			}
		}
	}
}

func fileOf(g api.Seg) string {
	file, _ := name.Segment(g.Num)
	return file
}
