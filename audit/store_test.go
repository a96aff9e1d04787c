package audit_test

import (
	"fmt"
	"math"
	"math/rand"
	"slices"
	"testing"

	"flume/api"
	"flume/audit"
	"flume/crash"
	"flume/disk"
	"flume/store"
)

// ---- what follows: the files that a store leaves ----

// call is one of a store's calls.
type call func(s *store.Store)

func appends(list ...string) call { return func(s *store.Store) { s.Append(texts(list...)...) } }
func syncs(s *store.Store)        { s.Sync() }
func closes(s *store.Store)       { s.Close() }
func truncates(by int64) call {
	return func(s *store.Store) { s.TruncateFront(s.Look().First + by) }
}

// script is calls to a log, and what it is opened with.
type script struct {
	ps    api.Params
	calls []call
}

func scripts() []script {
	return []script{
		{api.Params{SegMax: 64, Base: 1}, []call{appends("a", "b"), syncs, appends("c"), truncates(1), appends("d"), truncates(2), syncs, closes}},
		{api.Params{SegMax: 100, Base: 5}, []call{appends("abc"), appends("de", "", "f", "ghijk"), syncs, truncates(2), appends("l", "m"), truncates(1), closes}},
		{api.Params{SegMax: 4096, Base: 9}, []call{appends("a"), appends("b", "c"), syncs, truncates(2), appends("d"), truncates(1), syncs, truncates(1)}},
	}
}

// life is a disk, and whether a log was told to be there, and which Durable was told.
type life struct {
	d       *disk.Disk
	there   bool
	durable int64
}

// lived opens a log on a disk and calls it, asking behind each call.
func (l *life) lived(t *testing.T, what string, x script) {
	t.Helper()
	s, _, err := store.Open(l.d, x.ps)
	l.wantSound(t, what+", opened")
	if err != api.OK {
		return
	}
	l.there = true
	for i, c := range x.calls {
		c(s)
		l.durable = max(l.durable, s.Look().Durable)
		l.wantSound(t, fmt.Sprint(what, ", call ", i))
	}
}

// wantSound wants Files and Lasting to be a log's, or none that was told.
func (l *life) wantSound(t *testing.T, what string) {
	t.Helper()
	for i, fs := range [][]api.File{l.d.Files(), l.d.Lasting()} {
		what := what + []string{", Files", ", Lasting"}[i]
		p := plainly(fs)
		same(t, "P15.1: Check: "+what, audit.Check(fs), p.found)
		if p.found != nil && p.found[0].Code == 1 {
			same(t, "what follows: a log was told: "+what, l.there, false)
			same(t, "what follows: not sound: "+what, audit.Sound(fs), false)
			continue
		}
		same(t, "what follows: sound: "+what, audit.Sound(fs), true)
		_, next, err := audit.Range(fs)
		if next < l.durable || err != api.OK {
			t.Fatalf("what follows: %s: Next is %d, %d; Durable was %d", what, next, err, l.durable)
		}
	}
}

// wantOpens opens the log that is on d, and wants it to find what was told of its files.
func (l *life) wantOpens(t *testing.T, what string, d *disk.Disk, ps api.Params) {
	t.Helper()
	fs := d.Files()
	heldAgainstOpen(t, what, fs, d, ps)
	if !slices.ContainsFunc(fs, func(f api.File) bool { return f.Name == "catalog" }) {
		same(t, "what follows: a log was told: "+what, l.there, false)
		return
	}
	same(t, "what follows: sound: "+what, audit.Sound(fs), true)
	same(t, "what follows: nothing is left to be found: "+what, audit.Check(d.Files()), findings())
}

// heldAgainstOpen opens the log of a disk with those files, and holds what it finds against what is told of them.
func heldAgainstOpen(t *testing.T, what string, fs []api.File, d *disk.Disk, ps api.Params) {
	t.Helper()
	tells := audit.Check(fs)
	first, next, e := audit.Range(fs)
	recs, _ := audit.Records(fs, 0, math.MaxInt)
	s, f, err := store.Open(d, ps)
	if tells != nil && tells[0].Code == 1 {
		same(t, "no catalog: "+what, fmt.Sprint(f.Fresh, err, e), fmt.Sprint(true, api.OK, api.ErrCorrupt))
		return
	}
	same(t, "what follows: Open: "+what, err, e)
	if err != api.OK {
		return
	}
	removed, lost := 0, int64(0)
	for _, x := range tells {
		switch x.Code {
		case 8:
			removed++
		case 10:
			lost = x.At
		}
	}
	same(t, "what follows: Found: "+what, f, api.Found{Removed: removed, Lost: int(lost)})
	l := s.Look()
	same(t, "what follows: First and Next: "+what, []int64{l.First, l.Next}, []int64{first, next})
	same(t, "what follows: how many: "+what, int64(len(recs)), next-first)
	for i, want := range recs {
		rec, err := s.Read(first + int64(i))
		same(t, "what follows: Read: "+what, fmt.Sprint(rec, err), fmt.Sprint(want, api.OK))
	}
}

func TestWhatAStoreLeaves(t *testing.T) {
	for n, x := range scripts() {
		l := &life{d: disk.New(1 << 20)}
		l.lived(t, fmt.Sprint("script ", n), x)
		same(t, "there is a log", l.there, true)
		l.wantOpens(t, fmt.Sprint("script ", n), l.d, x.ps)
	}
}

// At each operation a fault of each kind: what is left then, as it is, what lasts of it, and behind each fate.
func TestWhatAStoreLeavesAtEachMoment(t *testing.T) {
	for n, x := range scripts() {
		done := false
		for at := int64(1); !done; at++ {
			for kind := api.FaultIO; kind <= api.FaultPanic; kind++ {
				l := &life{d: disk.New(1 << 20)}
				same(t, "Arm", l.d.Arm(api.Fault{At: at, Kind: kind, Part: int(at*7) % 40}), api.OK)
				what := fmt.Sprintf("script %d, fault %d at %d", n, kind, at)
				l.lived(t, what, x)
				done = l.d.Count().All < at
				l.d.Arm()
				if l.d.Up() {
					l.wantOpens(t, what, l.d.Copy(), x.ps)
				}
				l.eachFate(t, what, x)
			}
		}
	}
}

// eachFate wants the log behind each fate of the disk; the first one leaves what lasts.
func (l *life) eachFate(t *testing.T, what string, x script) {
	t.Helper()
	ways, err := crash.Ways(l.d)
	same(t, "Ways", err, api.OK)
	for i := range ways {
		c, err := crash.After(l.d, i)
		same(t, "After", err, api.OK)
		if i == 0 {
			same(t, "what lasts", c.Files(), l.d.Lasting())
		}
		what := fmt.Sprint(what, ", fate ", i)
		v := &life{c, l.there, l.durable}
		v.wantSound(t, what)
		v.wantOpens(t, what, c, x.ps)
		v.wantSound(t, what+", opened again")
	}
}

// Logs that are called, fail, lose the power and are opened in an order that is drawn.
func TestWhatDrawnStoresLeave(t *testing.T) {
	r := rand.New(rand.NewSource(151))
	for round := range 300 {
		l := &life{d: disk.New(1 << 20)}
		for n := range 4 {
			what := fmt.Sprintf("round %d, life %d", round, n)
			x := script{ps: api.Params{SegMax: 64 + r.Intn(120), Base: 1 + r.Int63n(5)}}
			for range r.Intn(10) {
				x.calls = append(x.calls, drawnCall(r))
			}
			if r.Intn(2) == 0 {
				l.d.Arm(api.Fault{At: 1 + r.Int63n(40), Kind: 1 + r.Intn(4), Part: r.Intn(50)})
			}
			l.lived(t, what, x)
			l.d.Arm()
			if !l.d.Up() || r.Intn(3) == 0 {
				ways, err := crash.Ways(l.d)
				same(t, "Ways", err, api.OK)
				f, _ := crash.At(l.d, r.Int63n(ways))
				l.d.Crash(f)
				l.wantSound(t, what+", crashed")
			}
			l.wantOpens(t, what, l.d.Copy(), x.ps)
		}
	}
}

func drawnCall(r *rand.Rand) call {
	switch r.Intn(6) {
	case 0, 1:
		return syncs
	case 2:
		return truncates(r.Int63n(4))
	}
	var list []string
	for range 1 + r.Intn(4) {
		list = append(list, string(big(r.Intn(40))))
	}
	return appends(list...)
}
