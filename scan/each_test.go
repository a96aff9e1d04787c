package scan_test

import (
	"bytes"
	"iter"
	"slices"
	"testing"

	"flume/api"
	"flume/scan"
)

// wantGone goes over s, and wants the first n records of "a", "b", "c" behind base 5 and seed 9.
func wantGone(t *testing.T, what string, s iter.Seq2[int, api.Record], n int) {
	t.Helper()
	c := chainOf(5, 9, words("a", "b", "c")...)
	i := 0
	for at, rec := range s {
		if rec.LSN != 5+int64(i) || string(rec.Data) != "abc"[i:i+1] || at != c.at[i] {
			t.Errorf("P7.2: %s: the record %d: %v at %d", what, i, rec, at)
		}
		i++
		if i == n {
			break
		}
	}
	if i != n {
		t.Errorf("P7.2: %s: %d records, want %d", what, i, n)
	}
}

func TestEachIsGoneOverAgain(t *testing.T) {
	s := scan.Each(chainOf(5, 9, words("a", "b", "c")...).with(0), 5, 9)
	for _, n := range []int{3, 1, 2, 3, 1, 3} {
		wantGone(t, "again", s, n)
	}
}

// An iterator that went on behind a false would break the loop that ranges over it; here that is seen.
func TestEachIsLeftEarly(t *testing.T) {
	s := scan.Each(chainOf(5, 9, words("a", "b", "c")...).bytes, 5, 9)
	for n := 1; n <= 3; n++ {
		calls := 0
		s(func(int, api.Record) bool {
			calls++
			return calls < n
		})
		if calls != n {
			t.Errorf("P7.2: left at the record %d: asked %d times", n, calls)
		}
	}
}

func TestEachIsNested(t *testing.T) {
	s := scan.Each(chainOf(5, 9, words("a", "b", "c")...).bytes, 5, 9)
	n := 0
	for range s {
		wantGone(t, "within", s, 3)
		wantGone(t, "within, left", s, 1)
		n++
	}
	if n != 3 {
		t.Errorf("P0.8: the outer one: %d records", n)
	}
}

func TestEachOfNone(t *testing.T) {
	for _, b := range [][]byte{nil, {}, {1}, make([]byte, 16), chainOf(6, 9, nil).bytes} {
		for _, base := range []int64{5, 0, -1, 1<<63 - 1} {
			s := scan.Each(b, base, 9)
			if s == nil {
				t.Fatalf("P0.8: Each(%x, %d) is nil", b, base)
			}
			for at, rec := range s {
				t.Errorf("P7.2: Each(%x, %d): %v at %d", b, base, rec, at)
			}
		}
	}
}

func TestEachGoesOverACopy(t *testing.T) {
	b := chainOf(5, 9, words("a", "b", "c")...).bytes
	s := scan.Each(b, 5, 9)
	clear(b)
	wantGone(t, "behind a change", s, 3)
	copy(b, chainOf(5, 9, words("x", "y", "z")...).bytes)
	wantGone(t, "behind another change", s, 3)
}

func TestEachIsChangedWhileItIsGoneOver(t *testing.T) {
	b := chainOf(5, 9, words("a", "b", "c")...).bytes
	s := scan.Each(b, 5, 9)
	n := 0
	for _, rec := range s {
		clear(b)
		copy(rec.Data[:cap(rec.Data)], "xxxxxxxx")
		_ = append(rec.Data, "yyy"...)
		n++
	}
	if n != 3 {
		t.Errorf("P7.3: bytes written over on the way: %d records", n)
	}
	wantGone(t, "behind records that were written over", s, 3)
}

// What lies in the spare room of what is handed in is not looked at, even where it would be the next frame.
func TestSpareRoomIsNotTaken(t *testing.T) {
	c := chainOf(5, 9, words("a", "b", "c")...)
	b := c.bytes[:c.at[2]]
	if s := scan.Over(b, 5, 9); s != c.stands(5, 2, api.WhyEnd) {
		t.Errorf("P7.1: with spare room: %v", s)
	}
	if l := scan.Records(b, 5, 9, 9); len(l) != 2 {
		t.Errorf("P7.2: with spare room: %v", l)
	}
	wantNone(t, b, 5, 9, 7)
}

// all asks all four calls.
func all(b []byte) {
	scan.Over(b, 5, 9)
	scan.Records(b, 5, 9, 3)
	scan.Find(b, 5, 9, 6)
	gather(b, 5, 9)
}

func TestWhatIsHandedInStays(t *testing.T) {
	b := chainOf(5, 9, words("a", "b", "c")...).with(1, 2, 3)
	room := append(b, "spare room"...)
	kept := bytes.Clone(room)
	all(room[:len(b)])
	if !bytes.Equal(room, kept) {
		t.Errorf("P7.3: what was handed in, or its spare room, is %x, was %x", room, kept)
	}
}

// scribble writes over records, their spare room too.
func scribble(recs []api.Record) {
	for i := range recs {
		d := recs[i].Data
		clear(d[:cap(d)])
		_ = append(d, 7, 7, 7)
		recs[i] = api.Record{LSN: 99}
	}
	clear(recs[:cap(recs)])
}

func TestRecordsAreNewMemory(t *testing.T) {
	b := chainOf(5, 9, words("a", "b", "c")...).bytes
	kept := bytes.Clone(b)
	want := scan.Records(kept, 5, 9, 3)
	for what, take := range map[string]func() []api.Record{
		"Records": func() []api.Record { return scan.Records(b, 5, 9, 3) },
		"Each": func() []api.Record {
			recs, _ := gather(b, 5, 9)
			return recs
		},
		"Find": func() []api.Record {
			var recs []api.Record
			for lsn := range int64(3) {
				rec, _, _ := scan.Find(b, 5, 9, 5+lsn)
				recs = append(recs, rec)
			}
			return recs
		},
	} {
		first := take()
		clear(b)
		if !sameRecords(first, want) {
			t.Errorf("P7.3: %s: writing into what was handed in changed the records: %v", what, first)
		}
		copy(b, kept)
		second := take()
		scribble(first)
		if !sameRecords(second, want) || !sameRecords(take(), want) || !bytes.Equal(b, kept) {
			t.Errorf("P7.3: %s: writing into records changed others, or what was handed in", what)
		}
	}
}

// No two records of one answer share memory: each is written over, its spare room too, and the others stay.
func TestRecordsDoNotShare(t *testing.T) {
	datas := words("aaaa", "b", "", "cc")
	b := chainOf(5, 9, datas...).bytes
	for i := range datas {
		recs := scan.Records(b, 5, 9, 9)
		d := recs[i].Data
		clear(d[:cap(d)])
		_ = append(d, 1, 2, 3)
		for k, rec := range recs {
			if k != i && !bytes.Equal(rec.Data, datas[k]) {
				t.Errorf("P0.3: writing into the record %d changed the record %d: %x", i, k, rec.Data)
			}
		}
	}
}

// The frames of a whole disk are gone over at one go, and none of them costs what stands behind it.
func TestManyFrames(t *testing.T) {
	const many = 1 << 17
	c := chainOf(1, 0, slices.Repeat([][]byte{nil}, many)...)
	if s := scan.Over(c.bytes, 1, 0); s != c.stands(1, many, api.WhyEnd) {
		t.Errorf("P7.1: many frames: %v", s)
	}
	if _, at, err := scan.Find(c.bytes, 1, 0, many); at != 16*(many-1) || err != api.OK {
		t.Errorf("P7.2: the last of many: %d, %d", at, err)
	}
	if l := scan.Records(c.bytes, 1, 0, 1<<62); len(l) != many {
		t.Errorf("P7.2: many records: %d", len(l))
	}
}
