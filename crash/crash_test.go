package crash_test

import (
	"fmt"
	"math"
	"math/rand"
	"reflect"
	"slices"
	"testing"

	"flume/api"
	"flume/crash"
)

func TestExamples(t *testing.T) {
	d := example()
	n, err := crash.Ways(d)
	same(t, "P12.1: Ways", n, int64(12))
	same(t, "P12.1: Ways", err, api.OK)
	for i, want := range map[int64]api.Fate{0: fate(0, 0), 3: fate(0, 3), 4: fate(1, 0, 0), 5: fate(1, 0, 1), 11: fate(1, 3, 1)} {
		f, err := crash.At(d, i)
		same(t, fmt.Sprint("P12.2: At ", i), f, want)
		same(t, fmt.Sprint("P12.2: At ", i), err, api.OK)
	}
	f, err := crash.At(d, 12)
	same(t, "P12.2: At 12", f, api.Fate{})
	same(t, "P12.2: At 12", err, api.ErrBounds)
}

// The files that each fate of the example leaves, in the order of their numbers.
func TestFilesOfTheExample(t *testing.T) {
	want := []string{"a=ab", "a=abc", "a=abcd", "a=abcde",
		"a=ab b=", "a=ab b=z", "a=abc b=", "a=abc b=z", "a=abcd b=", "a=abcd b=z", "a=abcde b=", "a=abcde b=z"}
	for i, files := range want {
		c, err := crash.After(example(), int64(i))
		same(t, fmt.Sprint("P12.3: After ", i), err, api.OK)
		same(t, fmt.Sprint("P12.3: After ", i), text(c.Files()), files)
	}
}

func text(files []api.File) (s string) {
	for i, f := range files {
		if i > 0 {
			s += " "
		}
		s += f.Name + "=" + string(f.Bytes)
	}
	return
}

// all the disks of the other tests.
func all() []making {
	list := makings()
	for seed := range int64(150) {
		list = append(list, drawn(seed))
	}
	return list
}

func TestWays(t *testing.T) {
	for _, m := range makings() {
		n, err := crash.Ways(m.make())
		same(t, "P12.1: Ways of "+m.what, n, m.ways)
		same(t, "P12.1: Ways of "+m.what, err, api.OK)
	}
	for _, m := range all() {
		d := m.make()
		n, err := crash.Ways(d)
		same(t, "P12.1: Ways of "+m.what, n, plainWays(d).Int64())
		same(t, "P12.1: Ways of "+m.what, err, api.OK)
	}
}

func TestThereAndBack(t *testing.T) {
	for _, m := range all() {
		d := m.make()
		for i, want := range plainFates(d) {
			what := fmt.Sprint("P12.2: ", i, " of ", m.what)
			f, err := crash.At(d, int64(i))
			same(t, what, err, api.OK)
			if !alike(f, want) {
				t.Fatalf("%s: %v, want %v", what, f, want)
			}
			for _, k := range f.Keeps {
				same(t, what+": Junk", k.Junk, []byte(nil))
			}
			n, err := crash.Number(d, f)
			same(t, what+": Number", n, int64(i))
			same(t, what+": Number", err, api.OK)
		}
	}
}

func TestBounds(t *testing.T) {
	for _, m := range all() {
		d := m.make()
		ways, _ := crash.Ways(d)
		for _, i := range []int64{math.MinInt64, -ways, -2, -1, 0, ways - 1, ways, ways + 1, 2 * ways, 1 << 40, math.MaxInt64} {
			want := api.OK
			if i < 0 || i >= max(ways, 1) {
				want = api.ErrBounds
			}
			what := fmt.Sprint(i, " of ", m.what)
			f, err := crash.At(d, i)
			same(t, "P12.2: At "+what, err, want)
			c, cerr := crash.After(d, i)
			same(t, "P12.3: After "+what, cerr, want)
			same(t, "P12.3: After "+what+": a disk", c != nil, want == api.OK)
			if want != api.OK {
				same(t, "P12.2: At "+what, f, api.Fate{})
			}
		}
	}
}

func TestNumber(t *testing.T) {
	d := example()
	junk := func(dir int, keeps ...api.Keep) api.Fate { return api.Fate{Dir: dir, Keeps: keeps} }
	for _, c := range []struct {
		what string
		f    api.Fate
		want int64
	}{
		{"the zero fate", api.Fate{}, 0},
		{"a Dir below 0", fate(-1, 2), 2},
		{"the least Dir", fate(math.MinInt, 3), 3},
		{"a Dir above Pending", fate(2, 1, 1), 7},
		{"the greatest Dir", fate(math.MaxInt, 3, 0), 10},
		{"an N below 0", fate(0, -1), 0},
		{"the least N", fate(1, math.MinInt, math.MinInt), 4},
		{"an N below 0 behind another", fate(1, 2, -5), 8},
		{"an N above the tail", fate(0, 4), 3},
		{"an N above the tail ahead of another", fate(1, 4, 0), 10},
		{"the greatest N", fate(1, math.MaxInt, math.MaxInt), 11},
		{"no Keeps", fate(1), 4},
		{"empty Keeps", api.Fate{Dir: 1, Keeps: []api.Keep{}}, 4},
		{"fewer Keeps than files", fate(1, 2), 8},
		{"more Keeps than files", fate(0, 2, 1), 2},
		{"many more Keeps than files", fate(1, 1, 1, 7, -7, math.MaxInt), 7},
		{"Junk", junk(0, api.Keep{N: 2, Junk: []byte("x")}), 2},
		{"Junk alone", junk(1, api.Keep{Junk: []byte("xyz")}, api.Keep{Junk: []byte("x")}), 4},
		{"empty Junk", junk(1, api.Keep{N: 1, Junk: []byte{}}), 6},
		{"Junk beyond the files", junk(0, api.Keep{N: 1}, api.Keep{N: 1, Junk: make([]byte, 1000)}), 1},
	} {
		n, err := crash.Number(d, c.f)
		same(t, "P12.2: Number of "+c.what, n, c.want)
		same(t, "P12.2: Number of "+c.what, err, api.OK)
	}
}

// drawFate draws a fate that is in and out of its bounds, with Junk and without.
func drawFate(r *rand.Rand, pending int) api.Fate {
	f := api.Fate{Dir: r.Intn(pending+4) - 2}
	for range r.Intn(6) {
		f.Keeps = append(f.Keeps, api.Keep{N: r.Intn(10) - 2, Junk: make([]byte, r.Intn(3))})
	}
	return f
}

func TestNumbersOfDrawnFates(t *testing.T) {
	r := rand.New(rand.NewSource(12))
	for _, m := range all() {
		d := m.make()
		for range 20 {
			f := drawFate(r, d.Pending())
			n, err := crash.Number(d, f)
			same(t, fmt.Sprint("P12.2: Number of ", f, " of ", m.what), n, plainNumber(d, f))
			same(t, "P12.2: Number", err, api.OK)
		}
	}
}

// A disk behind After is, in all, the disk behind a Crash of its own.
func TestAfter(t *testing.T) {
	for _, m := range all() {
		d := m.make()
		for i, f := range plainFates(d) {
			what := fmt.Sprint("P12.3: After ", i, " of ", m.what)
			c, err := crash.After(d, int64(i))
			same(t, what, err, api.OK)
			own := m.make()
			own.Crash(f)
			same(t, what, tell(c), tell(own))
			if i%7 == 0 {
				same(t, what, show(c), show(own))
			}
		}
	}
}

func TestWhatFollows(t *testing.T) {
	r := rand.New(rand.NewSource(21))
	for _, m := range all() {
		d := m.make()
		for range 8 {
			f := drawFate(r, d.Pending())
			for k := range f.Keeps {
				f.Keeps[k].Junk = nil
			}
			n, _ := crash.Number(d, f)
			c, err := crash.After(d, n)
			same(t, "what follows: After of a Number", err, api.OK)
			own := m.make()
			own.Crash(f)
			same(t, fmt.Sprint("what follows: the files of ", m.what, " behind ", f), text(c.Files()), text(own.Files()))
			ways, err := crash.Ways(c)
			same(t, "what follows: Ways of a disk just crashed", ways, int64(1))
			same(t, "what follows: Ways of a disk just crashed", err, api.OK)
		}
		var seen []api.Fate
		ways, _ := crash.Ways(d)
		for i := range min(ways, 200) {
			f, _ := crash.At(d, i)
			if slices.ContainsFunc(seen, func(x api.Fate) bool { return alike(x, f) }) {
				t.Fatalf("what follows: %d of %s has a fate of a lower one: %v", i, m.what, f)
			}
			seen = append(seen, f)
		}
	}
}

// Every call, at numbers and fates in and out of their bounds, leaves the disk as it was.
func TestDiskAsItWas(t *testing.T) {
	for _, m := range all() {
		d, was := m.make(), show(m.make())
		ways, _ := crash.Ways(d)
		before := d.Copy()
		unchanged := func(call string) {
			t.Helper()
			same(t, "P12.3: "+m.what+" behind "+call, show(d), was)
			if !reflect.DeepEqual(d.Copy(), before) {
				t.Fatalf("P12.3: %s behind %s: not as it was", m.what, call)
			}
		}
		unchanged("Ways")
		for _, i := range []int64{-1, 0, ways / 2, ways - 1, ways} {
			crash.At(d, i)
			unchanged("At")
			crash.After(d, i)
			unchanged("After")
		}
		for _, f := range []api.Fate{{}, fate(99, 99, 99, 99, 99, 99), fate(-1, -1, -1)} {
			crash.Number(d, f)
			unchanged("Number")
		}
	}
}
