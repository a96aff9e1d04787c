package catalog_test

import (
	"math"
	"math/rand"
	"slices"
	"testing"

	"flume/api"
	"flume/catalog"
)

// What a catalog is and comes to is worked out here by the document's words.

const (
	most    = math.MaxInt64
	minSize = 32
	maxSize = 1<<31 - 1
)

// plainMay asks for each thing that a catalog must be, one by one.
func plainMay(c api.Catalog) bool {
	if c.Gen < 1 || c.First < 1 || len(c.Segs) == 0 || len(c.Segs) > 64 {
		return false
	}
	for i, s := range c.Segs {
		if s.Num < 1 || s.Base < 1 {
			return false
		}
		if i == len(c.Segs)-1 {
			return s.End == 0 && s.Size == 0 && c.First >= c.Segs[0].Base && (i == 0 || c.First <= c.Segs[0].End)
		}
		next := c.Segs[i+1]
		if s.End < s.Base || s.Size < 32 || s.Size > 2147483647 {
			return false
		}
		if uint64(next.Num) != uint64(s.Num)+1 || next.Base != s.End {
			return false
		}
	}
	return false
}

func plainAt(c api.Catalog, lsn int64) (int, bool) {
	at, there := 0, false
	if plainMay(c) && lsn >= c.First {
		for i, s := range c.Segs {
			if s.Base <= lsn {
				at, there = i, true
			}
		}
	}
	return at, there
}

func copied(c api.Catalog) api.Catalog {
	c.Segs = append([]api.Seg(nil), c.Segs...)
	return c
}

// same tells whether two catalogs are one; a nil list of segments is an empty one.
func same(a, b api.Catalog) bool {
	return a.Gen == b.Gen && a.First == b.First && slices.Equal(a.Segs, b.Segs)
}

// one has a single open segment, the document's example.
func one() api.Catalog {
	return api.Catalog{Gen: 1, First: 1, Segs: []api.Seg{{Num: 1, Base: 1, Seed: 7}}}
}

// three has two sealed segments and an open one, all their numbers apart.
func three() api.Catalog {
	return api.Catalog{Gen: 6, First: 23, Segs: []api.Seg{
		{Num: 4, Base: 20, Seed: 71, End: 30, Size: 300},
		{Num: 5, Base: 30, Seed: 72, End: 45, Size: 400},
		{Num: 6, Base: 45, Seed: 73},
	}}
}

// row has n segments, each of three records.
func row(n int) api.Catalog {
	c := api.Catalog{Gen: 9, First: 10}
	for i := range int64(n) {
		c.Segs = append(c.Segs, api.Seg{Num: 5 + i, Base: 10 + 3*i, Seed: uint32(i), End: 13 + 3*i, Size: 100 + int(i)})
	}
	c.Segs[n-1].End, c.Segs[n-1].Size = 0, 0
	return c
}

func wantMay(t *testing.T, what string, c api.Catalog, want bool) {
	t.Helper()
	if got := catalog.May(c); got != want {
		t.Errorf("P10.1: %s: May(%v): %v, want %v", what, c, got, want)
	}
}

func wantAt(t *testing.T, what string, c api.Catalog, lsn int64, want int, there bool) {
	t.Helper()
	if got, ok := catalog.At(c, lsn); got != want || ok != there {
		t.Errorf("P10.3: %s: At(%v, %d): %d, %v, want %d, %v", what, c, lsn, got, ok, want, there)
	}
}

// lsns are those at which an answer about c may turn.
func lsns(c api.Catalog) []int64 {
	list := []int64{math.MinInt64, -1, 0, 1, 2, most - 1, most}
	around := func(n int64) {
		list = append(list, n)
		if n > math.MinInt64 {
			list = append(list, n-1)
		}
		if n < most {
			list = append(list, n+1)
		}
	}
	around(c.First)
	for _, s := range c.Segs {
		around(s.Base)
		around(s.End)
	}
	slices.Sort(list)
	return slices.Compact(list)
}

// check holds all that is answered about c against the plain answers, and c against what it was.
func check(t *testing.T, what string, c api.Catalog) {
	t.Helper()
	was := copied(c)
	wantMay(t, what, c, plainMay(c))
	checkWrite(t, what, c)
	for _, lsn := range lsns(c) {
		n, there := plainAt(c, lsn)
		wantAt(t, what, c, lsn, n, there)
		checkCut(t, what, c, lsn)
		for _, size := range []int{math.MinInt, -1, 0, minSize - 1, minSize, maxSize, maxSize + 1, math.MaxInt} {
			checkRoll(t, what, c, lsn, size, uint32(lsn))
		}
	}
	if !same(c, was) {
		t.Errorf("P10.6: %s: what was handed in became %v, was %v", what, c, was)
	}
}

// drawn draws a catalog that may be, of n segments; some of them are empty.
func drawn(r *rand.Rand, n int) api.Catalog {
	c := api.Catalog{Gen: 1 + r.Int63n(1<<r.Intn(62)), Segs: make([]api.Seg, n)}
	num, base := 1+r.Int63n(1<<r.Intn(62)), 1+r.Int63n(1<<r.Intn(62))
	for i := range c.Segs {
		s := api.Seg{Num: num, Base: base, Seed: r.Uint32()}
		if i < n-1 {
			s.End = base + r.Int63n(1<<r.Intn(50)+1)*r.Int63n(2)
			s.Size = minSize + r.Intn(1<<r.Intn(31))
		}
		c.Segs[i] = s
		num, base = num+1, s.End
	}
	c.First = c.Segs[0].Base + r.Int63n(1000)
	if n > 1 {
		c.First = min(c.First, c.Segs[0].End)
	}
	return c
}

// A spoilt catalog is one that may not be, for the reason that it tells.
type spoilt struct {
	why string
	c   api.Catalog
}

// spoilts has each reason once, and the edges of the numbers.
func spoilts() []spoilt {
	var list []spoilt
	add := func(why string, c api.Catalog, spoil func(c *api.Catalog)) {
		c = copied(c)
		spoil(&c)
		list = append(list, spoilt{why, c})
	}
	for _, n := range []int64{math.MinInt64, -1, 0} {
		add("such a Gen", three(), func(c *api.Catalog) { c.Gen = n })
		add("such a First", three(), func(c *api.Catalog) { c.First = n })
		add("such a First of one", one(), func(c *api.Catalog) { c.First = n })
		add("such a Num", one(), func(c *api.Catalog) { c.Segs[0].Num = n })
		add("such a Base", one(), func(c *api.Catalog) { c.Segs[0].Base = n })
		add("such a first Num", three(), func(c *api.Catalog) {
			c.Segs[0].Num, c.Segs[1].Num, c.Segs[2].Num = n, n+1, n+2
		})
		add("such a first Base", three(), func(c *api.Catalog) { c.Segs[0].Base = n })
		add("such an End", three(), func(c *api.Catalog) { c.Segs[1].End, c.Segs[2].Base = n, n })
		add("such a Size", three(), func(c *api.Catalog) { c.Segs[1].Size = int(n) })
	}
	add("no segment", one(), func(c *api.Catalog) { c.Segs = nil })
	add("no segment", one(), func(c *api.Catalog) { c.Segs = []api.Seg{} })
	add("65 segments", row(65), func(c *api.Catalog) {})
	add("an open one ahead", three(), func(c *api.Catalog) { c.Segs[1].End, c.Segs[1].Size = 0, 0 })
	add("an open first one", three(), func(c *api.Catalog) { c.Segs[0].End, c.Segs[0].Size = 0, 0 })
	add("a sealed last one", three(), func(c *api.Catalog) { c.Segs = c.Segs[:2] })
	add("a sealed one alone", three(), func(c *api.Catalog) { c.Segs = c.Segs[:1] })
	add("an open one with an End", three(), func(c *api.Catalog) { c.Segs[2].End = 50 })
	add("an open one with a Size", three(), func(c *api.Catalog) { c.Segs[2].Size = 50 })
	add("an open one with an End below 0", three(), func(c *api.Catalog) { c.Segs[2].End = -1 })
	add("an open one with a Size below 0", three(), func(c *api.Catalog) { c.Segs[2].Size = -1 })
	add("an open one alone with an End", one(), func(c *api.Catalog) { c.Segs[0].End = 5 })
	add("an open one alone with a Size", one(), func(c *api.Catalog) { c.Segs[0].Size = 32 })
	add("the same Num", three(), func(c *api.Catalog) { c.Segs[1].Num = 4 })
	add("the same last Num", three(), func(c *api.Catalog) { c.Segs[2].Num = 5 })
	add("a Num left out", three(), func(c *api.Catalog) { c.Segs[2].Num = 7 })
	add("Nums that fall", three(), func(c *api.Catalog) { c.Segs[0].Num, c.Segs[2].Num = 6, 4 })
	add("a Num behind the greatest", three(), func(c *api.Catalog) {
		c.Segs[0].Num, c.Segs[1].Num, c.Segs[2].Num = most-1, most, math.MinInt64
	})
	add("a Base that is not the End ahead", three(), func(c *api.Catalog) { c.Segs[1].Base = 29 })
	add("a Base behind the End ahead", three(), func(c *api.Catalog) { c.Segs[1].Base = 31 })
	add("an open one's Base ahead of the End", three(), func(c *api.Catalog) { c.Segs[2].Base = 44 })
	add("an open one's Base behind the End", three(), func(c *api.Catalog) { c.Segs[2].Base = 46 })
	add("an End below its Base", three(), func(c *api.Catalog) { c.Segs[1].End, c.Segs[2].Base = 29, 29 })
	add("a Size of 31", three(), func(c *api.Catalog) { c.Segs[0].Size = 31 })
	add("a second Size of 31", three(), func(c *api.Catalog) { c.Segs[1].Size = 31 })
	add("a Size of 2^31", three(), func(c *api.Catalog) { c.Segs[0].Size = 1 << 31 })
	add("a second Size of 2^31", three(), func(c *api.Catalog) { c.Segs[1].Size = 1 << 31 })
	add("a Size of 2^32 + 32", three(), func(c *api.Catalog) { c.Segs[1].Size = 1<<32 + 32 })
	add("a First below the first Base", three(), func(c *api.Catalog) { c.First = 19 })
	add("a First behind the first End", three(), func(c *api.Catalog) { c.First = 31 })
	add("a First below the open one's Base", one(), func(c *api.Catalog) { c.Segs[0].Base = 2 })
	return append(list, spoilt{"the zero one", api.Catalog{}})
}

func TestExamplesOfAt(t *testing.T) {
	c := api.Catalog{Gen: 2, First: 1, Segs: []api.Seg{{Num: 1, Base: 1, Seed: 7, End: 11, Size: 300}, {Num: 2, Base: 11, Seed: 9}}}
	wantAt(t, "the example", c, 0, 0, false)
	wantAt(t, "the example", c, 1, 0, true)
	wantAt(t, "the example", c, 10, 0, true)
	wantAt(t, "the example", c, 11, 1, true)
	wantAt(t, "the example", c, 999, 1, true)
}

func TestMayBe(t *testing.T) {
	for _, n := range []int{1, 2, 3, 63, 64} {
		wantMay(t, "a row", row(n), true)
		check(t, "a row", row(n))
	}
	change := func(what string, c api.Catalog, change func(c *api.Catalog)) {
		t.Helper()
		change(&c)
		wantMay(t, what, c, true)
		check(t, what, c)
	}
	change("three", three(), func(c *api.Catalog) {})
	change("one", one(), func(c *api.Catalog) {})
	change("the greatest Gen", three(), func(c *api.Catalog) { c.Gen = most })
	change("the least Gen", three(), func(c *api.Catalog) { c.Gen = 1 })
	change("the greatest First", one(), func(c *api.Catalog) { c.First = most })
	change("First at the first Base", three(), func(c *api.Catalog) { c.First = 20 })
	change("First at the first End", three(), func(c *api.Catalog) { c.First = 30 })
	change("the greatest Num", one(), func(c *api.Catalog) { c.Segs[0].Num = most })
	change("the greatest Nums", three(), func(c *api.Catalog) {
		c.Segs[0].Num, c.Segs[1].Num, c.Segs[2].Num = most-2, most-1, most
	})
	change("the greatest Base", one(), func(c *api.Catalog) { c.First, c.Segs[0].Base = most, most })
	change("the least Size", three(), func(c *api.Catalog) { c.Segs[0].Size = minSize })
	change("the greatest Size", three(), func(c *api.Catalog) { c.Segs[1].Size = maxSize })
	change("an End at its Base", three(), func(c *api.Catalog) { c.Segs[1].End, c.Segs[2].Base = 30, 30 })
	change("a first End at its Base", three(), func(c *api.Catalog) {
		c.First, c.Segs[0].End, c.Segs[1].Base = 20, 20, 20
	})
	change("the greatest End", three(), func(c *api.Catalog) { c.Segs[1].End, c.Segs[2].Base = most, most })
	change("the greatest everywhere", three(), func(c *api.Catalog) {
		c.Gen, c.First = most, most
		for i := range c.Segs {
			c.Segs[i] = api.Seg{Num: most - 2 + int64(i), Base: most, Seed: math.MaxUint32, End: most, Size: maxSize}
		}
		c.Segs[2].End, c.Segs[2].Size = 0, 0
	})
}

// TestMayNotBe asks each function about each catalog that may not be.
func TestMayNotBe(t *testing.T) {
	for _, x := range spoilts() {
		wantMay(t, x.why, x.c, false)
		wantWrite(t, x.why, x.c, nil, api.ErrForm)
		for _, lsn := range lsns(x.c) {
			wantAt(t, x.why, x.c, lsn, 0, false)
			wantRoll(t, x.why, x.c, lsn, 300, 9, api.Catalog{}, api.ErrForm)
			wantCut(t, x.why, x.c, lsn, api.Catalog{}, nil, api.ErrForm)
		}
		check(t, x.why, x.c)
	}
}

func TestDrawn(t *testing.T) {
	r := rand.New(rand.NewSource(101))
	for n := range 150 {
		c := drawn(r, 1+r.Intn(min(n+1, 64)))
		wantMay(t, "drawn", c, true)
		check(t, "drawn", c)
	}
}

// TestOneNumberAway changes one number of a catalog by a little, or to one that is out of the way.
func TestOneNumberAway(t *testing.T) {
	r := rand.New(rand.NewSource(102))
	for range 600 {
		c := drawn(r, 1+r.Intn(4))
		if r.Intn(3) > 0 {
			c = three()
		}
		s := &c.Segs[r.Intn(len(c.Segs))]
		small, wide := int64(r.Intn(5)-2), []int64{math.MinInt64, 0, 1, 31, 32, maxSize, maxSize + 1, most}[r.Intn(8)]
		move := func(n int64) int64 {
			if r.Intn(2) == 0 {
				return wide
			}
			return n + small
		}
		switch r.Intn(6) {
		case 0:
			c.Gen = move(c.Gen)
		case 1:
			c.First = move(c.First)
		case 2:
			s.Num = move(s.Num)
		case 3:
			s.Base = move(s.Base)
		case 4:
			s.End = move(s.End)
		default:
			s.Size = int(move(int64(s.Size)))
		}
		check(t, "a number away", c)
	}
}

// TestAtOfEmpties: where several segments begin at one LSN the last of them has it.
func TestAtOfEmpties(t *testing.T) {
	c := api.Catalog{Gen: 1, First: 5, Segs: []api.Seg{
		{Num: 1, Base: 5, End: 5, Size: 32},
		{Num: 2, Base: 5, End: 5, Size: 32},
		{Num: 3, Base: 5, End: 8, Size: 99},
		{Num: 4, Base: 8, End: 8, Size: 32},
		{Num: 5, Base: 8},
	}}
	wantAt(t, "empties", c, 4, 0, false)
	wantAt(t, "empties", c, 5, 2, true)
	wantAt(t, "empties", c, 7, 2, true)
	wantAt(t, "empties", c, 8, 4, true)
	wantAt(t, "empties", c, most, 4, true)
	check(t, "empties", c)
	c.First = most
	c.Segs = []api.Seg{{Num: 1, Base: 5}}
	wantAt(t, "the greatest First", c, most-1, 0, false)
	wantAt(t, "the greatest First", c, most, 0, true)
}
