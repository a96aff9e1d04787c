package audit_test

import (
	"fmt"
	"math"
	"slices"
	"testing"

	"flume/api"
	"flume/audit"
)

// fill writes over a list, its spare room too.
func fill(b []byte) {
	b = b[:cap(b)]
	for i := range b {
		b[i] = '!'
	}
}

// roomy is the files in memory with spare room, all of it bytes of what would go on.
func roomy(fs []api.File) []api.File {
	list := make([]api.File, len(fs), len(fs)+3)
	for i, f := range fs {
		b := slices.Concat(f.Bytes, f.Bytes, []byte("spare room"))
		list[i] = file(f.Name, b[:len(f.Bytes)])
	}
	whole := list[:cap(list)]
	whole[len(fs)] = file("spare", []byte("spare"))
	whole[len(fs)+1] = file("", nil)
	return list
}

// whole tells all of what is handed in, its spare room too.
func whole(fs []api.File) string {
	s := ""
	for _, f := range fs[:cap(fs)] {
		s += fmt.Sprintf("%q %x, ", f.Name, f.Bytes[:cap(f.Bytes)])
	}
	return s
}

// answers is all that is told of files.
func answers(fs []api.File) string {
	found := audit.Check(fs)
	sound := audit.Sound(fs)
	first, next, e := audit.Range(fs)
	recs, err := audit.Records(fs, math.MinInt64, math.MaxInt)
	some, err2 := audit.Records(fs, 2, 2)
	return fmt.Sprint(found, sound, first, next, e, recs, err, some, err2)
}

// What is handed in is not changed, and its spare room is not looked at.
func TestHandedInStays(t *testing.T) {
	for code, l := range lones(t) {
		for _, fs := range [][]api.File{l.fs, laid(1, three()), laid(2, three())} {
			room := roomy(fs)
			was := whole(room)
			same(t, fmt.Sprint("P15.4: with spare room: ", code), answers(room), answers(fs))
			same(t, "P15.4: what is handed in", whole(room), was)
		}
	}
}

// What was answered stays what it is when what was handed in is written over, and nothing of that is kept.
func TestHandedInIsNotKept(t *testing.T) {
	for _, l := range lones(t) {
		fs := roomy(l.fs)
		found := audit.Check(fs)
		recs, _ := audit.Records(fs, 0, 99)
		was := fmt.Sprint(found, recs)
		for i := range fs[:cap(fs)] {
			fill(fs[:cap(fs)][i].Bytes)
			fs[:cap(fs)][i].Name = "other"
		}
		same(t, "P15.4: what was answered", fmt.Sprint(found, recs), was)
		same(t, "P15.4: files written over", audit.Check(fs), findings(api.Finding{Code: 1, Name: "catalog"}, api.Finding{Code: 9, Name: "other"}))
		same(t, "P15.4: other files", answers(l.fs), answers(slices.Clone(l.fs)))
	}
}

// What is answered is written over, spare room too: no file and no other answer is another one.
func TestNewMemory(t *testing.T) {
	fs := beside(laid(1, three()), empty("a", "segment-next")...)
	was, told := whole(fs), answers(fs)
	kept, _ := audit.Records(fs, 0, 99)
	tells := fmt.Sprint(kept)
	recs, _ := audit.Records(fs, 0, 99)
	for i := range recs {
		for j := range recs {
			if j != i {
				_ = append(recs[j].Data, "appended to another one"...)
			}
		}
		same(t, "P15.4: no two share memory", fmt.Sprint(recs[i]), fmt.Sprint(kept[i]))
		fill(recs[i].Data)
	}
	clear(recs[:cap(recs)])
	found := audit.Check(fs)
	held := audit.Check(fs)
	again := fmt.Sprint(held)
	clear(found[:cap(found)])
	_ = append(found[:0], api.Finding{Code: 77}, api.Finding{Code: 78}, api.Finding{Code: 79})
	same(t, "P15.4: another answer", fmt.Sprint(kept), tells)
	same(t, "P15.4: another answer", fmt.Sprint(held), again)
	same(t, "P15.4: the files", whole(fs), was)
	same(t, "P15.4: asked again", answers(fs), told)
}

// One file's memory may be another's too.
func TestSharedMemoryHandedIn(t *testing.T) {
	all := slices.Concat(plainCatalog(catalogOf(1, chained(1, 1, texts("a")))), chained(1, 1, texts("a"))[0].bytes())
	n := len(all) - 49
	fs := []api.File{file("catalog", all[:n]), file(one, all[n:]), file("segment-next", all), file("zz", all[n:])}
	asked(t, "one memory", fs, found(8, "segment-next", 0), found(9, "zz", 0))
	wantRecords(t, "one memory", fs, 0, 9, 1, "a")
}
