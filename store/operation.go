package store

import (
	"flume/api"
	"flume/catalog"
	"flume/name"
	"flume/segment"
)

// givenUp is what must panics with: whoever began the operations recovers it, no caller sees it.
type givenUp struct{ err api.Errno }

// must gives up, unless what it is handed is OK: so operations stand one behind the other, and none is done behind one that failed.
func must(err api.Errno) {
	if err != api.OK {
		panic(givenUp{err})
	}
}

// reason tells the error for which operations were given up, of what was recovered. What must did not panic with is the disk's api.Boom.
func reason(x any) api.Errno {
	if g, ok := x.(givenUp); ok {
		return g.err
	}
	return api.ErrPanic
}

// fail makes the store fail for good, of what was recovered.
func (s *Store) fail(x any) api.Errno {
	s.cause = reason(x)
	return api.ErrFailed
}

// replace writes a file anew under the name next, and then lets it take the file's place: at no moment is there less than one of them.
func (s *Store) replace(file, next string, b []byte) {
	must(s.disk.Create(next))
	_, err := s.disk.Append(next, b)
	must(err)
	must(s.disk.Sync(next))
	must(s.disk.Rename(next, file))
	must(s.disk.SyncDir())
}

// write makes c the log's catalog.
func (s *Store) write(c api.Catalog) {
	b, err := catalog.Write(c)
	must(err)
	s.replace(name.Catalog(), name.NextCatalog(), b)
	s.catalog = c
}

// remove takes files away.
func (s *Store) remove(files []string) {
	if len(files) == 0 {
		return
	}
	for _, file := range files {
		must(s.disk.Remove(file))
	}
	must(s.disk.SyncDir())
}

// lay makes a new segment's file.
func (s *Store) lay(g api.Seg) *segment.Segment {
	laid, err := segment.Create(s.disk, fileOf(g), headOf(g))
	must(err)
	return laid
}

// fileOf gives the name of a catalog's segment, whose number is one that a name has.
func fileOf(g api.Seg) string {
	file, _ := name.Segment(g.Num)
	return file
}

func headOf(g api.Seg) api.Head {
	return api.Head{Num: g.Num, Base: g.Base, Seed: g.Seed}
}
