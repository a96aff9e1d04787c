package catalog_test

import (
	"math"
	"math/rand"
	"slices"
	"testing"

	"flume/api"
	"flume/catalog"
)

func plainRoll(c api.Catalog, end int64, size int, seed uint32) (api.Catalog, api.Errno) {
	if !plainMay(c) {
		return api.Catalog{}, api.ErrForm
	}
	if len(c.Segs) == 64 {
		return api.Catalog{}, api.ErrMany
	}
	c = copied(c)
	last := &c.Segs[len(c.Segs)-1]
	if c.Gen == most || last.Num == most {
		return api.Catalog{}, api.ErrArg
	}
	c.Gen++
	last.End, last.Size = end, size
	c.Segs = append(c.Segs, api.Seg{Num: last.Num + 1, Base: end, Seed: seed})
	if !plainMay(c) {
		return api.Catalog{}, api.ErrArg
	}
	return c, api.OK
}

func plainCut(c api.Catalog, lsn int64) (api.Catalog, []int64, api.Errno) {
	if !plainMay(c) {
		return api.Catalog{}, nil, api.ErrForm
	}
	if lsn < c.First || c.Gen == most {
		return api.Catalog{}, nil, api.ErrArg
	}
	cut := api.Catalog{Gen: c.Gen + 1, First: lsn}
	var gone []int64
	for i, s := range c.Segs {
		if i < len(c.Segs)-1 && s.End <= lsn {
			gone = append(gone, s.Num)
		} else {
			cut.Segs = append(cut.Segs, s)
		}
	}
	if !plainMay(cut) {
		return api.Catalog{}, nil, api.ErrArg
	}
	return cut, gone, api.OK
}

func wantRoll(t *testing.T, what string, c api.Catalog, end int64, size int, seed uint32, want api.Catalog, wantErr api.Errno) {
	t.Helper()
	if got, err := catalog.Roll(c, end, size, seed); !same(got, want) || err != wantErr {
		t.Errorf("P10.4: %s: Roll(%v, %d, %d, %d): %v, %v, want %v, %v", what, c, end, size, seed, got, err, want, wantErr)
	}
}

func wantCut(t *testing.T, what string, c api.Catalog, lsn int64, want api.Catalog, nums []int64, wantErr api.Errno) {
	t.Helper()
	got, gone, err := catalog.Cut(c, lsn)
	if !same(got, want) || !slices.Equal(gone, nums) || err != wantErr {
		t.Errorf("P10.5: %s: Cut(%v, %d): %v, %v, %v, want %v, %v, %v", what, c, lsn, got, gone, err, want, nums, wantErr)
	}
}

func checkRoll(t *testing.T, what string, c api.Catalog, end int64, size int, seed uint32) {
	t.Helper()
	want, err := plainRoll(c, end, size, seed)
	wantRoll(t, what, c, end, size, seed, want, err)
}

// checkCut holds Cut against the plain one, and against what follows: a segment goes just where it has no record at or above lsn.
func checkCut(t *testing.T, what string, c api.Catalog, lsn int64) {
	t.Helper()
	want, nums, err := plainCut(c, lsn)
	wantCut(t, what, c, lsn, want, nums, err)
	got, gone, err := catalog.Cut(c, lsn)
	if err != api.OK {
		return
	}
	if !catalog.May(got) {
		t.Errorf("what follows: %s: Cut(%v, %d) may not be: %v", what, c, lsn, got)
	}
	for i, s := range c.Segs {
		has := i == len(c.Segs)-1 || s.End-1 >= lsn
		if slices.Contains(gone, s.Num) == has {
			t.Errorf("what follows: %s: Cut(%v, %d): segment %d: %v", what, c, lsn, s.Num, gone)
		}
	}
}

func TestExamplesOfRoll(t *testing.T) {
	c := one()
	two := api.Catalog{Gen: 2, First: 1, Segs: []api.Seg{{Num: 1, Base: 1, Seed: 7, End: 11, Size: 300}, {Num: 2, Base: 11, Seed: 9}}}
	wantRoll(t, "the example", c, 11, 300, 9, two, api.OK)
	wantRoll(t, "the example", c, 11, 31, 0, api.Catalog{}, api.ErrArg)
	empty := api.Catalog{Gen: 2, First: 1, Segs: []api.Seg{{Num: 1, Base: 1, Seed: 7, End: 1, Size: 32}, {Num: 2, Base: 1}}}
	wantRoll(t, "the example", c, 1, 32, 0, empty, api.OK)
	wantRoll(t, "the example", c, 0, 32, 0, api.Catalog{}, api.ErrArg)
}

func TestExamplesOfCut(t *testing.T) {
	two := api.Catalog{Gen: 2, First: 1, Segs: []api.Seg{{Num: 1, Base: 1, Seed: 7, End: 11, Size: 300}, {Num: 2, Base: 11, Seed: 9}}}
	wantCut(t, "the example", two, 11, api.Catalog{Gen: 3, First: 11, Segs: two.Segs[1:]}, []int64{1}, api.OK)
	wantCut(t, "the example", two, 5, api.Catalog{Gen: 3, First: 5, Segs: two.Segs}, nil, api.OK)
	wantCut(t, "the example", two, 0, api.Catalog{}, nil, api.ErrArg)
	wantCut(t, "the example", one(), 5, api.Catalog{Gen: 2, First: 5, Segs: one().Segs}, nil, api.OK)
}

func TestRollOfThree(t *testing.T) {
	c := three()
	want := api.Catalog{Gen: 7, First: 23, Segs: []api.Seg{
		c.Segs[0], c.Segs[1],
		{Num: 6, Base: 45, Seed: 73, End: 60, Size: 500},
		{Num: 7, Base: 60, Seed: 74},
	}}
	wantRoll(t, "three", c, 60, 500, 74, want, api.OK)
	want.Segs[2].End, want.Segs[3].Base = most, most
	want.Segs[2].Size = maxSize
	wantRoll(t, "the greatest end and size", c, most, maxSize, 74, want, api.OK)
	for _, end := range []int64{math.MinInt64, -1, 0, 1, 30, 44} {
		wantRoll(t, "an end below the Base", c, end, 500, 74, api.Catalog{}, api.ErrArg)
	}
	for _, size := range []int{math.MinInt, -32, 0, 31, 1 << 31, 1<<32 + 32, math.MaxInt} {
		wantRoll(t, "such a size", c, 60, size, 74, api.Catalog{}, api.ErrArg)
	}
}

// TestRollBelowFirst: the one segment must not end ahead of First.
func TestRollBelowFirst(t *testing.T) {
	c := one()
	c.First = 5
	wantRoll(t, "an end below First", c, 4, 32, 0, api.Catalog{}, api.ErrArg)
	want := api.Catalog{Gen: 2, First: 5, Segs: []api.Seg{{Num: 1, Base: 1, Seed: 7, End: 5, Size: 32}, {Num: 2, Base: 5}}}
	wantRoll(t, "an end at First", c, 5, 32, 0, want, api.OK)
}

func TestRollAtTheGreatest(t *testing.T) {
	c := one()
	c.Gen = most
	wantRoll(t, "the greatest Gen", c, 11, 300, 9, api.Catalog{}, api.ErrArg)
	c.Gen = most - 1
	want := api.Catalog{Gen: most, First: 1, Segs: []api.Seg{{Num: 1, Base: 1, Seed: 7, End: 11, Size: 300}, {Num: 2, Base: 11, Seed: 9}}}
	wantRoll(t, "the greatest Gen but one", c, 11, 300, 9, want, api.OK)
	c = one()
	c.Segs[0].Num = most
	wantRoll(t, "the greatest Num", c, 11, 300, 9, api.Catalog{}, api.ErrArg)
	c.Segs[0].Num = most - 1
	want.Gen, want.Segs[0].Num, want.Segs[1].Num = 2, most-1, most
	wantRoll(t, "the greatest Num but one", c, 11, 300, 9, want, api.OK)
}

// TestRollToTheMost goes from one segment to 64, and no further, whatever else is wrong.
func TestRollToTheMost(t *testing.T) {
	c := one()
	for n := range int64(63) {
		next, err := catalog.Roll(c, 2*n+2, 40, uint32(n))
		if err != api.OK || len(next.Segs) != int(n)+2 || next.Gen != n+2 {
			t.Fatalf("P10.4: roll %d: %v, %v", n, next, err)
		}
		check(t, "rolled", next)
		c = next
	}
	wantRoll(t, "64 segments", c, 999, 40, 0, api.Catalog{}, api.ErrMany)
	wantRoll(t, "64 segments, and a size that may not be", c, 999, 31, 0, api.Catalog{}, api.ErrMany)
	wantRoll(t, "64 segments, and an end that may not be", c, 0, 40, 0, api.Catalog{}, api.ErrMany)
	c.Gen = most
	wantRoll(t, "64 segments, and the greatest Gen", c, 999, 40, 0, api.Catalog{}, api.ErrMany)
	c.Gen = 0
	wantRoll(t, "64 segments, and no Gen", c, 999, 40, 0, api.Catalog{}, api.ErrForm)
	wantRoll(t, "65 segments", row(65), 999, 40, 0, api.Catalog{}, api.ErrForm)
}

func TestCutOfThree(t *testing.T) {
	c := three()
	for _, x := range []struct {
		what string
		lsn  int64
		gone int
	}{
		{"at First", 23, 0}, {"within the first", 24, 0}, {"at its last record", 29, 0}, {"at the first End", 30, 1},
		{"within the second", 31, 1}, {"at its last record", 44, 1}, {"at the second End", 45, 2},
		{"behind the open one's Base", 46, 2}, {"far behind", 9999, 2}, {"at the greatest", most, 2},
	} {
		want := api.Catalog{Gen: 7, First: x.lsn, Segs: c.Segs[x.gone:]}
		wantCut(t, x.what, c, x.lsn, want, []int64{4, 5}[:x.gone], api.OK)
	}
	for _, lsn := range []int64{math.MinInt64, -1, 0, 1, 20, 22} {
		wantCut(t, "below First", c, lsn, api.Catalog{}, nil, api.ErrArg)
	}
	c.Gen = most
	wantCut(t, "the greatest Gen", c, 30, api.Catalog{}, nil, api.ErrArg)
	c.Gen = most - 1
	wantCut(t, "the greatest Gen but one", c, 45, api.Catalog{Gen: most, First: 45, Segs: c.Segs[2:]}, []int64{4, 5}, api.OK)
}

// TestCutOfEmpties: a sealed segment without a record goes as soon as its End is reached.
func TestCutOfEmpties(t *testing.T) {
	c := api.Catalog{Gen: 1, First: 5, Segs: []api.Seg{
		{Num: 1, Base: 5, End: 5, Size: 32},
		{Num: 2, Base: 5, End: 5, Size: 32},
		{Num: 3, Base: 5, End: 8, Size: 99},
		{Num: 4, Base: 8, End: 8, Size: 32},
		{Num: 5, Base: 8},
	}}
	wantCut(t, "empties", c, 5, api.Catalog{Gen: 2, First: 5, Segs: c.Segs[2:]}, []int64{1, 2}, api.OK)
	wantCut(t, "empties", c, 7, api.Catalog{Gen: 2, First: 7, Segs: c.Segs[2:]}, []int64{1, 2}, api.OK)
	wantCut(t, "empties", c, 8, api.Catalog{Gen: 2, First: 8, Segs: c.Segs[4:]}, []int64{1, 2, 3, 4}, api.OK)
}

// TestManyChanges rolls and cuts what came, on and on.
func TestManyChanges(t *testing.T) {
	r := rand.New(rand.NewSource(103))
	for range 20 {
		c := drawn(r, 1+r.Intn(5))
		for range 80 {
			open := c.Segs[len(c.Segs)-1]
			if r.Intn(3) > 0 {
				end, size, seed := open.Base+int64(r.Intn(9)-1), 30+r.Intn(99), r.Uint32()
				checkRoll(t, "on and on", c, end, size, seed)
				if next, err := catalog.Roll(c, end, size, seed); err == api.OK {
					c = next
				}
				continue
			}
			lsn := c.First + int64(r.Intn(30)-2)
			checkCut(t, "on and on", c, lsn)
			if next, _, err := catalog.Cut(c, lsn); err == api.OK {
				c = next
			}
		}
		check(t, "behind many changes", c)
	}
}

// roomy is three's catalog with spare room behind its segments, and all of the room.
func roomy() (api.Catalog, []api.Seg) {
	c := three()
	room := append(slices.Clone(c.Segs), api.Seg{Num: 7, Base: 77}, api.Seg{Num: 8, Base: 88}, api.Seg{Num: 9, Base: 99})
	c.Segs = room[:3]
	return c, room
}

// wipe writes over a list and its spare room.
func wipe(list []api.Seg) {
	list = list[:cap(list)]
	for i := range list {
		list[i] = api.Seg{Num: -1, Base: -2, Seed: 3, End: -4, Size: -5}
	}
}

// TestWhatIsHandedInStays: neither the segments nor the room behind them are written into.
func TestWhatIsHandedInStays(t *testing.T) {
	c, room := roomy()
	was := slices.Clone(room)
	catalog.May(c)
	catalog.Write(c)
	catalog.At(c, 33)
	catalog.Roll(c, 60, 500, 74)
	catalog.Roll(c, 60, 5, 74)
	for _, lsn := range []int64{0, 23, 30, 45, 99} {
		catalog.Cut(c, lsn)
	}
	if !slices.Equal(room, was) {
		t.Errorf("P10.6: what was handed in became %v", room)
	}
}

// TestChangesAreNewMemory: what came does not change with what was handed in, nor the other way round, nor with what another call answered.
func TestChangesAreNewMemory(t *testing.T) {
	for _, lsn := range []int64{23, 30, 45} {
		c, room := roomy()
		want, nums, _ := plainCut(c, lsn)
		first, gone, _ := catalog.Cut(c, lsn)
		second, _, _ := catalog.Cut(c, lsn)
		wipe(second.Segs)
		for i := range gone[:cap(gone)] {
			gone[:cap(gone)][i] = -9
		}
		if !same(first, want) || !same(c, three()) {
			t.Errorf("P10.6: Cut at %d shares memory: %v, %v", lsn, first, c)
		}
		wantCut(t, "again", c, lsn, want, nums, api.OK)
		wipe(room)
		if !same(first, want) {
			t.Errorf("P10.6: Cut at %d keeps what was handed in: %v", lsn, first)
		}
	}
	c, room := roomy()
	want, _ := plainRoll(c, 60, 500, 74)
	first, _ := catalog.Roll(c, 60, 500, 74)
	second, _ := catalog.Roll(c, 60, 500, 74)
	wipe(second.Segs)
	if !same(first, want) || !same(c, three()) {
		t.Errorf("P10.6: Roll shares memory: %v, %v", first, c)
	}
	wipe(room)
	if !same(first, want) {
		t.Errorf("P10.6: Roll keeps what was handed in: %v", first)
	}
}
