package audit_test

import (
	"fmt"
	"math"
	"math/rand"
	"slices"
	"testing"

	"flume/api"
	"flume/audit"
	"flume/catalog"
	"flume/disk"
)

// drawnParts is a log that is drawn.
func drawnParts(r *rand.Rand) []part {
	var lists [][][]byte
	for range 1 + r.Intn(5) {
		var datas [][]byte
		for range r.Intn(4) {
			datas = append(datas, big(r.Intn(20)))
		}
		lists = append(lists, datas)
	}
	return chained(1+r.Int63n(20), 1+r.Int63n(100), lists...)
}

// drawnFiles is the files of a log that is drawn, with its front cut anywhere.
func drawnFiles(r *rand.Rand) []api.File {
	parts := drawnParts(r)
	g := parts[0].seg
	end := max(g.End, g.Base+int64(len(parts[0].datas)))
	if r.Intn(10) == 0 && len(parts) == 1 {
		end += 2
	}
	fs := laid(g.Base+r.Int63n(end-g.Base+1), parts)
	r.Shuffle(len(fs), func(i, j int) { fs[i], fs[j] = fs[j], fs[i] })
	return fs
}

// harmed is the files with something done to one of them.
func harmed(r *rand.Rand, fs []api.File) []api.File {
	i := r.Intn(len(fs))
	f := fs[i]
	switch r.Intn(9) {
	case 0:
		return without(fs, f.Name)
	case 1:
		if len(f.Bytes) > 0 {
			return with(fs, f.Name, flip(f.Bytes, r.Intn(len(f.Bytes))))
		}
	case 2:
		return with(fs, f.Name, f.Bytes[:r.Intn(len(f.Bytes)+1)])
	case 3:
		return with(fs, f.Name, f.Bytes, big(r.Intn(40)))
	case 4:
		return with(fs, f.Name, fs[r.Intn(len(fs))].Bytes)
	case 5:
		return beside(fs, file(drawnName(r), f.Bytes))
	case 6:
		return beside([]api.File{file(f.Name, fs[r.Intn(len(fs))].Bytes)}, fs...)
	case 7:
		return beside(fs, file(f.Name, nil))
	}
	return recataloged(r, fs)
}

func drawnName(r *rand.Rand) string {
	names := []string{"", "a", "A", "catalog", "catalog-next", "segment-next", "seg-1.log", segName(0), segName(math.MaxInt64)}
	if r.Intn(2) == 0 {
		return segName(1 + r.Int63n(25))
	}
	return names[r.Intn(len(names))]
}

// recataloged is the files with a catalog that says something else.
func recataloged(r *rand.Rand, fs []api.File) []api.File {
	i := slices.IndexFunc(fs, func(f api.File) bool { return f.Name == "catalog" })
	if i < 0 {
		return fs
	}
	c, err := catalog.Read(fs[i].Bytes)
	if err != api.OK {
		return fs
	}
	k := r.Intn(len(c.Segs))
	switch r.Intn(5) {
	case 0:
		c.Segs[k].Seed += uint32(r.Intn(3))
	case 1:
		c.Segs[k].Size += r.Intn(3) - 1
	case 2:
		if k+1 < len(c.Segs) {
			c.Segs[k].End++
			c.Segs[k+1].Base++
		}
	case 3:
		c.First += r.Int63n(5) - 2
	case 4:
		c.Segs = c.Segs[:k+1]
		c.Segs[k].End, c.Segs[k].Size = 0, 0
	}
	return with(fs, "catalog", plainCatalog(c))
}

// Files of all kinds, held against an audit by the chapter's words, and against what opening them finds.
func TestDrawnFiles(t *testing.T) {
	r := rand.New(rand.NewSource(152))
	codes := map[int]int{}
	sound := 0
	for round := range 12000 {
		fs := drawnFiles(r)
		for range r.Intn(4) {
			if len(fs) > 0 {
				fs = harmed(r, fs)
			}
		}
		what := fmt.Sprintf("round %d: %q", round, fs)
		p := plainly(fs)
		asked(t, what, fs, p.found...)
		for _, f := range p.found {
			codes[f.Code]++
		}
		if p.sound {
			sound++
			wantStretch(t, what, fs, p.records, p.first+r.Int63n(9)-3, r.Intn(9)-1)
		}
		if d := onDisk(fs); d != nil {
			heldAgainstOpen(t, what, d.Files(), d, api.Params{SegMax: 64, Base: 1})
		}
	}
	// What was drawn must have had a bit of everything.
	for code := 1; code <= 11; code++ {
		if codes[code] < 50 {
			t.Errorf("only %d findings %d were drawn", codes[code], code)
		}
	}
	if sound < 2000 || sound > 10000 {
		t.Errorf("%d of those drawn are sound", sound)
	}
}

// wantStretch wants those of the records that are from that LSN on, at most that many.
func wantStretch(t *testing.T, what string, fs []api.File, all []api.Record, from int64, most int) {
	t.Helper()
	var want []api.Record
	for _, rec := range all {
		if rec.LSN >= from && len(want) < most {
			want = append(want, rec)
		}
	}
	got, err := audit.Records(fs, from, most)
	same(t, fmt.Sprintf("P15.3: Records(%d, %d): %s", from, most, what), fmt.Sprint(got, err), fmt.Sprint(want, api.OK))
}

// onDisk is a disk with those files, all of which lasts; nil, if a name may not be.
func onDisk(fs []api.File) *disk.Disk {
	d := disk.New(1 << 20)
	for _, f := range fs {
		switch d.Create(f.Name) {
		case api.ErrExists:
			continue
		case api.ErrName:
			return nil
		}
		d.Append(f.Name, f.Bytes)
		d.Sync(f.Name)
	}
	d.SyncDir()
	return d
}

// Bytes that are drawn, under the names of a log.
func TestDrawnBytes(t *testing.T) {
	r := rand.New(rand.NewSource(153))
	for range 3000 {
		var fs []api.File
		for range r.Intn(6) {
			b := make([]byte, r.Intn(80))
			r.Read(b)
			if r.Intn(3) == 0 {
				b = append([]byte("FCAT"), b...)
				b = summed(b)
			}
			fs = append(fs, file(drawnName(r), b))
		}
		asked(t, fmt.Sprintf("%q", fs), fs, plainly(fs).found...)
	}
}
