package crash_test

import (
	"fmt"
	"math"
	"math/big"
	"strings"
	"testing"

	"flume/api"
	"flume/crash"
	"flume/disk"
)

// created makes a disk with files of tails so long, whose names all pend.
func created(tails ...int) *disk.Disk {
	d := disk.New(api.MaxDisk)
	for i, n := range tails {
		s := fmt.Sprintf("f%03d", i)
		d.Create(s)
		d.Append(s, make([]byte, n))
	}
	return d
}

// tailed makes a disk with such files, whose names last.
func tailed(tails ...int) *disk.Disk {
	d := created(tails...)
	d.SyncDir()
	return d
}

// overfull makes a disk whose lasting directory has more bytes than there is room for, as what was removed makes room. Its 41 files come to 2^40 times 2^24 + 1 choices.
func overfull() *disk.Disk {
	d := tailed(like(41, 0)...)
	d.Append("f040", make([]byte, api.MaxDisk))
	d.Remove("f040")
	for i := range 40 {
		d.Append(fmt.Sprintf("f%03d", i), []byte("x"))
	}
	return d
}

// like makes a list of n times x.
func like(n, x int) []int {
	l := make([]int, n)
	for i := range l {
		l[i] = x
	}
	return l
}

const limit = 1 << 40

func TestAsManyAsMayBe(t *testing.T) {
	halves := tailed(1<<20-1, 1<<19-1)
	halves.Create("z")
	for _, c := range []struct {
		what string
		d    *disk.Disk
		ways int64
	}{
		{"the limit, of two tails", tailed(1<<20-1, 1<<20-1), limit},
		{"the limit, of tails of 1", tailed(like(40, 1)...), limit},
		{"the limit, with tails of none among them", tailed(0, 1<<20-1, 0, 1<<20-1, 0), limit},
		{"the limit, of unlike tails", tailed(1<<23-1, 1<<10-1, 1<<7-1), limit},
		{"one below it", tailed(1<<20-2, 1<<20), limit - 1},
		{"half of it", tailed(1<<20-1, 1<<19-1), limit / 2},
		{"the limit, in the sum of two halves", halves, limit},
		{"the limit, in the sum of three", created(1<<20-2, 1<<20-1), limit},
		{"256 files without tails", tailed(like(256, 0)...), 1},
		{"256 files that pend", created(like(256, 0)...), 257},
	} {
		n, err := crash.Ways(c.d)
		same(t, "P12.1: "+c.what, n, c.ways)
		same(t, "P12.1: "+c.what, err, api.OK)
		last, err := crash.At(c.d, c.ways-1)
		same(t, "P12.2: the last of "+c.what, err, api.OK)
		same(t, "P12.2: the last of "+c.what+": Dir", last.Dir, c.d.Pending())
		tails := c.d.Tails(last.Dir)
		same(t, "P12.2: the last of "+c.what+": Keeps", len(last.Keeps), len(tails))
		for k, x := range tails {
			same(t, "P12.2: the last of "+c.what, last.Keeps[k].N, x.N)
		}
		for _, i := range []int64{0, 1, c.ways / 3, c.ways / 2, c.ways - 2, c.ways - 1} {
			if i < 0 || i >= c.ways {
				continue
			}
			f, err := crash.At(c.d, i)
			same(t, fmt.Sprint("P12.2: At ", i, " of ", c.what), err, api.OK)
			n, err := crash.Number(c.d, f)
			same(t, fmt.Sprint("P12.2: there and back of ", c.what), n, i)
			same(t, fmt.Sprint("P12.2: there and back of ", c.what), err, api.OK)
		}
		_, err = crash.At(c.d, c.ways)
		same(t, "P12.2: beyond the last of "+c.what, err, api.ErrBounds)
	}
}

func TestTooMany(t *testing.T) {
	wrapping := []int{2, 4, 16, 256, 640, 65536, 6700416} // each and 1: the primes of 2^64 - 1
	small := tailed(1<<20-1, 1<<20-1)
	small.Append("f001", []byte("x"))
	sum := tailed(1<<20-1, 1<<19-1)
	sum.Create("z")
	sum.Remove("z")
	front := tailed(1<<20-1, 1<<20-1)
	front.Remove("f000")
	front.Remove("f001")
	for _, c := range []struct {
		what string
		d    *disk.Disk
	}{
		{"one choice more of one file", small},
		{"41 tails of 1", tailed(like(41, 1)...)},
		{"a product that is 2^63", tailed(like(63, 1)...)},
		{"a product that is 2^64", tailed(like(64, 1)...)},
		{"a product that is 2^64, of few", tailed(like(4, 1<<16-1)...)},
		{"a product that is 2^64 - 1", tailed(wrapping...)},
		{"a product that wraps to 1", tailed(append(wrapping, wrapping...)...)},
		{"a product that only the last file takes above 2^63", tailed(append(like(40, 1), api.MaxDisk-40)...)},
		{"a lasting directory beyond the room", overfull()},
		{"a product far above", tailed(like(256, 65535)...)},
		{"a tail of none behind far too many", tailed(append(like(64, 1), 0)...)},
		{"the front alone: less behind it", front},
		{"only in the sum, by one", created(1<<20-1, 1<<20-2)},
		{"only in the sum of three", sum},
		{"only what pends has too many", created(1<<20-1, 1<<20-1)},
		{"far above, of what pends", created(like(256, 65535)...)},
	} {
		same(t, c.what+": too many", plainWays(c.d).Cmp(big.NewInt(limit)), 1)
		n, err := crash.Ways(c.d)
		same(t, "P12.1: "+c.what, n, int64(0))
		same(t, "P12.1: "+c.what, err, api.ErrMany)
		for _, i := range []int64{math.MinInt64, -1, 0, 1, limit - 1, limit, math.MaxInt64} {
			f, err := crash.At(c.d, i)
			same(t, "P12.2: At of "+c.what, f, api.Fate{})
			same(t, "P12.2: At of "+c.what, err, api.ErrMany)
			x, err := crash.After(c.d, i)
			same(t, "P12.3: After of "+c.what, x == nil, true)
			same(t, "P12.3: After of "+c.what, err, api.ErrMany)
		}
		for _, f := range []api.Fate{{}, fate(1, 1, 1), fate(-1), fate(math.MaxInt, math.MaxInt)} {
			n, err := crash.Number(c.d, f)
			same(t, "P12.2: Number of "+c.what, n, int64(0))
			same(t, "P12.2: Number of "+c.what, err, api.ErrMany)
		}
	}
	same(t, "the sum that is just above", plainWays(created(1<<20-1, 1<<20-2)).Int64(), int64(limit+1))
}

func TestNilDisk(t *testing.T) {
	n, err := crash.Ways(nil)
	same(t, "P12.1: Ways of nil", n, int64(0))
	same(t, "P12.1: Ways of nil", err, api.ErrArg)
	for _, i := range []int64{math.MinInt64, -1, 0, 1, math.MaxInt64} {
		f, err := crash.At(nil, i)
		same(t, "P12.2: At of nil", f, api.Fate{})
		same(t, "P12.2: At of nil", err, api.ErrArg)
		c, err := crash.After(nil, i)
		same(t, "P12.3: After of nil", c == nil, true)
		same(t, "P12.3: After of nil", err, api.ErrArg)
	}
	for _, f := range []api.Fate{{}, fate(3, 1, 2), fate(-3, -1)} {
		n, err := crash.Number(nil, f)
		same(t, "P12.2: Number of nil", n, int64(0))
		same(t, "P12.2: Number of nil", err, api.ErrArg)
	}
}

// The zero disk has no file, nothing that pends, and no copy.
func TestZeroDisk(t *testing.T) {
	d := &disk.Disk{}
	n, err := crash.Ways(d)
	same(t, "P12.1: Ways of the zero disk", n, int64(1))
	same(t, "P12.1: Ways of the zero disk", err, api.OK)
	for _, i := range []int64{math.MinInt64, -1, 0, 1, math.MaxInt64} {
		want := api.ErrBounds
		if i == 0 {
			want = api.OK
		}
		f, err := crash.At(d, i)
		same(t, "P12.2: At of the zero disk", f.Dir+len(f.Keeps), 0)
		same(t, "P12.2: At of the zero disk", err, want)
		c, err := crash.After(d, i)
		same(t, "P12.3: After of the zero disk", c == nil, true)
		same(t, "P12.3: After of the zero disk", err, want)
	}
	for _, f := range []api.Fate{{}, fate(3, 1, 2), fate(-3, -1)} {
		n, err := crash.Number(d, f)
		same(t, "P12.2: Number of the zero disk", n, int64(0))
		same(t, "P12.2: Number of the zero disk", err, api.OK)
	}
	same(t, "P12.3: the zero disk", d.Up(), false)
}

func TestDownDisk(t *testing.T) {
	d := example()
	d.Arm(api.Fault{At: 1, Kind: api.FaultPower})
	same(t, "the fault", d.SyncDir(), api.ErrDown)
	up := example()
	n, err := crash.Ways(d)
	same(t, "P12.1: Ways of a disk that is down", n, int64(12))
	same(t, "P12.1: Ways of a disk that is down", err, api.OK)
	for i := range n {
		f, err := crash.At(d, i)
		want, _ := crash.At(up, i)
		same(t, "P12.2: At of a disk that is down", f, want)
		same(t, "P12.2: At of a disk that is down", err, api.OK)
		back, err := crash.Number(d, f)
		same(t, "P12.2: Number of a disk that is down", back, i)
		same(t, "P12.2: Number of a disk that is down", err, api.OK)
		c, err := crash.After(d, i)
		same(t, "P12.3: After of a disk that is down", err, api.OK)
		same(t, "P12.3: After of a disk that is down is up", c.Up(), true)
		same(t, "P12.3: the disk that is down", d.Up(), false)
	}
}

// What At answers may be written over, and appended to, by whoever has it.
func TestNewMemory(t *testing.T) {
	d := example()
	f, _ := crash.At(d, 11)
	g, _ := crash.At(d, 11)
	room := f.Keeps[:cap(f.Keeps)]
	for k := range room {
		room[k] = api.Keep{N: -9, Junk: []byte("over")}
	}
	same(t, "P12.4: another answer", g, fate(1, 3, 1))
	h, _ := crash.At(d, 11)
	same(t, "P12.4: a later answer", h, fate(1, 3, 1))
	same(t, "P12.4: the disk", tell(d), tell(example()))
}

// What Number is handed is neither changed nor kept, its spare room neither.
func TestHandedIn(t *testing.T) {
	d := example()
	keeps := []api.Keep{{N: 99, Junk: []byte("jk")[:1]}, {N: -9}, {N: 7, Junk: []byte("x")}, {N: 5}}
	n, err := crash.Number(d, api.Fate{Dir: 9, Keeps: keeps[:3]})
	same(t, "P12.2: Number", n, int64(10))
	same(t, "P12.2: Number", err, api.OK)
	same(t, "P0.3: what was handed in", keeps, []api.Keep{{N: 99, Junk: []byte("j")}, {N: -9}, {N: 7, Junk: []byte("x")}, {N: 5}})
	same(t, "P0.3: its spare room", string(keeps[0].Junk[:2]), "jk")
	n, _ = crash.Number(d, api.Fate{Dir: 1, Keeps: keeps[3:]})
	same(t, "P12.2: Number", n, int64(10))
	n, _ = crash.Number(d, api.Fate{Dir: 1, Keeps: keeps[2:2]})
	same(t, "P12.2: Number with room for Keeps", n, int64(4))
}

// A disk that After gave, its origin, and another one that After gave: each is changed by itself.
func TestEachByItself(t *testing.T) {
	change := func(d *disk.Disk) {
		d.Append("a", []byte("more"))
		d.Sync("a")
		d.Cut("a", 1)
		d.Create("c")
		d.Rename("c", "e")
		d.Remove("b")
		d.SyncDir()
		d.Arm(api.Fault{At: 1, Kind: api.FaultPower})
		d.Create("d")
	}
	for i := range int64(12) {
		d := example()
		first, _ := crash.After(d, i)
		second, _ := crash.After(d, i)
		was, origin := show(first), show(d)
		same(t, "P12.3: two of the same number", show(second), was)
		change(first)
		same(t, "P12.4: the origin, when what After gave is changed", show(d), origin)
		same(t, "P12.4: another one that After gave", show(second), was)
		now := show(first)
		change(d)
		same(t, "P12.4: what After gave, when the origin is changed", show(second), was)
		same(t, "P12.4: what After gave and was changed", show(first), now)
		if strings.Contains(was, "up false") || !strings.Contains(now, "up false") {
			t.Fatalf("P12.3: %s, then %s", was, now)
		}
	}
}

// The numbers of operations go on, and the room is the origin's.
func TestAfterGoesOn(t *testing.T) {
	d := example()
	d.Arm(api.Fault{At: 1, Kind: api.FaultIO})
	c, _ := crash.After(d, 11)
	same(t, "P12.3: Count", c.Count(), d.Count())
	n, err := c.Append("a", make([]byte, 200))
	same(t, "P12.3: what fits", n, 100-6)
	same(t, "P12.3: no fault is armed", err, api.ErrFull)
	n, err = d.Append("a", make([]byte, 200))
	same(t, "P12.3: the origin's fault", n, 0)
	same(t, "P12.3: the origin's fault", err, api.ErrIO)
}
