package disk_test

import (
	"bytes"
	"fmt"
	"math"
	"math/rand"
	"strings"
	"testing"

	"flume/api"
	"flume/disk"
)

// several has changes of every kind that pend, over files with and without tails.
func several(t *testing.T) *disk.Disk {
	t.Helper()
	return lay(t, 99, create("a"), put("a", "a1"), sync("a"), create("b"), put("b", "b12"), syncDir(), put("a", "a2"),
		create("c"), put("c", "c"), rename("a", "d"), put("d", "d"), rename("c", "b"), remove("b"), create("a"), put("a", "new"))
}

// The directories that come of several's lasting one by the first 0, 1 .. of what pends, and their tails.
var severalTails = []string{"a:3 b:3", "a:3 b:3 c:1", "b:3 c:1 d:3", "b:1 d:3", "d:3", "a:3 d:3"}

func TestTailsAndDirs(t *testing.T) {
	d := several(t)
	same(t, "P11.7: Pending", d.Pending(), 5)
	for _, dir := range []int{math.MinInt, -2, -1, 0, 1, 2, 3, 4, 5, 6, 7, 1000, math.MaxInt} {
		want := severalTails[min(max(dir, 0), 5)]
		same(t, fmt.Sprint("P11.7: Tails of ", dir), tails(d.Tails(dir)), want)
		c := d.Copy()
		c.Crash(api.Fate{Dir: dir})
		l, err := c.List()
		var names []string
		for _, x := range d.Tails(dir) {
			names = append(names, x.Name)
		}
		same(t, fmt.Sprint("P11.8: Crash with Dir ", dir), l, names)
		same(t, "P11.8: it is up", err, api.OK)
		same(t, "P11.8: nothing pends", c.Pending(), 0)
		same(t, "P11.8: all lasts", files(c.Lasting()), files(c.Files()))
		for _, x := range c.Tails(0) {
			same(t, "P11.8: no tails", x.N, 0)
		}
	}
	same(t, "P11.9: the disk that was copied", tell(d), tell(several(t)))
}

func TestFilesBehindACrash(t *testing.T) {
	all := keeps(api.Keep{N: 9}, api.Keep{N: 9}, api.Keep{N: 9})
	for dir, want := range []struct{ none, all string }{
		{"a:a1 b:", "a:a1a2d b:b12"},
		{"a:a1 b: c:", "a:a1a2d b:b12 c:c"},
		{"b: c: d:a1", "b:b12 c:c d:a1a2d"},
		{"b: d:a1", "b:c d:a1a2d"},
		{"d:a1", "d:a1a2d"},
		{"a: d:a1", "a:new d:a1a2d"},
	} {
		d := several(t)
		d.Crash(api.Fate{Dir: dir})
		same(t, fmt.Sprint("P11.8: the zero Keeps, Dir ", dir), files(d.Files()), want.none)
		d = several(t)
		d.Crash(api.Fate{Dir: dir, Keeps: all})
		same(t, fmt.Sprint("P11.8: all is kept, Dir ", dir), files(d.Files()), want.all)
	}
}

func TestKeepsByTheFilesNames(t *testing.T) {
	lists := [][]api.Keep{
		nil,
		keeps(api.Keep{N: 1}),
		keeps(api.Keep{N: 1}, api.Keep{N: 2}),
		keeps(api.Keep{N: 1}, api.Keep{N: 2}, api.Keep{N: 3}),
		keeps(api.Keep{N: 1}, api.Keep{N: 2}, api.Keep{N: 3}, api.Keep{N: 9, Junk: []byte("xyz")}, api.Keep{N: -1}),
		keeps(api.Keep{}, api.Keep{Junk: []byte("xy")}),
	}
	want := []string{"a: b:B c:", "a:1 b:B c:", "a:1 b:B45 c:", "a:1 b:B45 c:789", "a:1 b:B45 c:789", "a: b:Bxy c:"}
	for i, ks := range lists {
		// They were created in another order than that of their names.
		d := lay(t, 99, create("c"), create("a"), create("b"), put("b", "B"), sync("b"), syncDir(), put("c", "789"), put("b", "456"), put("a", "123"))
		d.Crash(api.Fate{Keeps: ks})
		same(t, fmt.Sprint("P11.8: Keeps ", ks), files(d.Files()), want[i])
		same(t, "P11.8: it lasts", files(d.Lasting()), want[i])
	}
}

func TestKeepsOfOneFile(t *testing.T) {
	for _, x := range []struct {
		n    int
		junk string
		want string
	}{
		{math.MinInt, "", "ab"}, {-1, "", "ab"}, {0, "", "ab"}, {1, "", "abc"}, {3, "", "abcde"}, {4, "", "abcdef"}, {5, "", "abcdef"}, {math.MaxInt, "", "abcdef"},
		{0, "1", "ab1"}, {0, "123", "ab123"}, {0, "1234", "ab1234"}, {0, "12345", "ab1234"}, {-7, "12345678", "ab1234"}, {math.MinInt, "123456", "ab1234"},
		{1, "1", "abc1"}, {1, "123", "abc123"}, {1, "1234", "abc123"}, {3, "12", "abcde1"}, {4, "1", "abcdef"}, {5, "1", "abcdef"}, {math.MaxInt, "123456789", "abcdef"},
	} {
		d := lay(t, 99, create("a"), syncDir(), put("a", "ab"), sync("a"), put("a", "cdef"))
		d.Crash(api.Fate{Keeps: keeps(api.Keep{N: x.n, Junk: []byte(x.junk)})})
		same(t, fmt.Sprintf("P11.8: N %d, Junk %q", x.n, x.junk), files(d.Files())+" "+files(d.Lasting()), "a:"+x.want+" a:"+x.want)
	}
}

func TestJunkOfASector(t *testing.T) {
	for _, x := range []struct{ tail, n, junk, want int }{
		{511, 0, 2000, 511}, {512, 0, 2000, 512}, {513, 0, 2000, 512}, {2000, 0, 2000, 512}, {2000, 0, 511, 511}, {2000, 0, 512, 512}, {2000, 0, 513, 512},
		{2000, 1000, 2000, 512}, {2000, 1487, 2000, 512}, {2000, 1488, 2000, 512}, {2000, 1489, 2000, 511}, {2000, 2000, 2000, 0}, {2000, 3000, 513, 0}, {0, 0, 513, 0},
	} {
		d := lay(t, 5000, create("a"), syncDir(), put("a", "ab"), sync("a"), put("a", strings.Repeat("t", x.tail)))
		junk := make([]byte, x.junk)
		for i := range junk {
			junk[i] = byte('A' + i%26)
		}
		d.Crash(api.Fate{Keeps: keeps(api.Keep{N: x.n, Junk: junk})})
		want := "ab" + strings.Repeat("t", min(x.n, x.tail)) + string(junk[:x.want])
		got, _ := d.Read("a", 0, len(want))
		n, _ := d.Size("a")
		if string(got) != want || n != len(want) {
			t.Errorf("P11.8: a tail of %d, N %d, %d bytes of Junk: %d bytes, want %d, %v", x.tail, x.n, x.junk, n, len(want), string(got) == want)
		}
	}
}

func TestCrashWithMarkedBytes(t *testing.T) {
	for n, want := range []string{"abxyxy", "ab\x00xyx", "ab\x00\x00xy", "ab\x00\x00ex", "ab\x00\x00ef", "ab\x00\x00ef"} {
		d := lay(t, 99, create("a"), syncDir(), put("a", "ab"), sync("a"), put("a", "cd"))
		failSync(t, d)
		must(t, d, put("a", "ef"))
		d.Crash(api.Fate{Keeps: keeps(api.Keep{N: n, Junk: []byte("xyxy")})})
		same(t, fmt.Sprint("P11.8: marked ones as 0, N ", n), files(d.Files()), "a:"+want)
		must(t, d, cut("a", 2), put("a", "gh"), sync("a"))
		same(t, "P11.8: no byte is marked", files(d.Lasting()), "a:abgh")
	}
}

// What a Sync made last as 0 is read as it was until Crash, whatever that leaves.
func TestSpoiltBytesUntilCrash(t *testing.T) {
	d := lay(t, 99, create("a"), syncDir(), put("a", "ab"))
	failSync(t, d)
	must(t, d, sync("a"), put("a", "cd"))
	same(t, "they are read as they were", files(d.Files())+" "+files(d.Lasting()), "a:abcd a:\x00\x00")
	d.Crash(api.Fate{Keeps: keeps(api.Keep{N: 1})})
	same(t, "until Crash", files(d.Files()), "a:\x00\x00c")
}

func TestCrashOfADiskThatIsUp(t *testing.T) {
	d := several(t)
	arm(t, d, api.Fault{At: 1, Kind: api.FaultIO})
	was := d.Count()
	d.Crash(api.Fate{Dir: 5})
	same(t, "P11.8: it is no operation", d.Count(), was)
	must(t, d, put("a", "x"))
	same(t, "P11.8: numbers go on", d.Count().All, was.All+1)
}

// What a Crash leaves lasts: another one, whatever it says, changes no file.
func TestCrashTwice(t *testing.T) {
	for dir := range 6 {
		d := several(t)
		d.Crash(api.Fate{Dir: dir, Keeps: keeps(api.Keep{N: 2}, api.Keep{Junk: []byte("jk")}, api.Keep{N: 1, Junk: []byte("l")})})
		was := tell(d)
		for _, f := range []api.Fate{{}, {Dir: 3}, {Dir: -1, Keeps: keeps(api.Keep{N: 5, Junk: []byte("zz")})}, {Keeps: keeps(api.Keep{}, api.Keep{N: -1, Junk: []byte("zz")})}} {
			d.Crash(f)
			same(t, "what follows: nothing pends, no tails", tell(d), was)
		}
	}
}

// What was appended, synced without a fault and not cut is a file's front after any Crash in which it is there; files beside it are as they were.
func TestWhatFollows(t *testing.T) {
	r := rand.New(rand.NewSource(118))
	for range 500 {
		d := lay(t, 999, create("a"), create("b"), put("b", "beside"), sync("b"), syncDir())
		var all, kept string
		for range r.Intn(12) {
			if r.Intn(3) == 0 {
				must(t, d, sync("a"))
				kept = all
				continue
			}
			s := drawText(r, 5)
			must(t, d, put("a", s))
			all += s
		}
		name := "a"
		if r.Intn(2) == 0 {
			name = "c"
			must(t, d, rename("a", "c"), syncDir())
		}
		for range 5 {
			c := d.Copy()
			c.Crash(drawFate(r, 0))
			b, err := c.Read(name, 0, len(kept))
			same(t, "what follows: the front", string(b)+fmt.Sprint(err), kept+"0")
			b, _ = c.Read("b", 0, 6)
			n, _ := c.Size("b")
			same(t, "what follows: files beside it", fmt.Sprint(string(b), n), "beside6")
		}
	}
}

func TestCopyIsLikeItInAll(t *testing.T) {
	d := several(t)
	failed := d.Copy()
	arm(t, failed, api.Fault{At: 1, Kind: api.FaultIO})
	same(t, "a failed Sync", sync("d").on(failed), answer{err: api.ErrIO})
	arm(t, failed, api.Fault{At: 2, Kind: api.FaultIO, Part: 1}, api.Fault{At: 4, Kind: api.FaultPower})
	for what, x := range map[string]*disk.Disk{"new": disk.New(7), "several": d, "with faults and marks": failed, "down": downDisk(t), "overfull": overfull(t)} {
		c := x.Copy()
		same(t, "P11.9: Copy: "+what, tell(c), tell(x))
		same(t, "P11.9: Copy of a Copy: "+what, tell(c.Copy()), tell(x))
		for i, o := range []call{put("d", "pq"), put("d", "rs"), sync("d"), create("e"), put("b", strings.Repeat("x", 100))} {
			was := tell(c)
			got := o.on(x)
			same(t, "P11.9: the copy stays: "+what, tell(c), was)
			same(t, fmt.Sprint("P11.9: the copy answers alike: ", what, i), o.on(c), got)
			same(t, fmt.Sprint("P11.9: the copy goes on alike: ", what, i), tell(c), tell(x))
		}
		x.Crash(api.Fate{Dir: 4, Keeps: keeps(api.Keep{N: 1, Junk: []byte("j")}, api.Keep{N: 9})})
		c.Crash(api.Fate{Dir: 4, Keeps: keeps(api.Keep{N: 1, Junk: []byte("j")}, api.Keep{N: 9})})
		same(t, "P11.9: the copy crashes alike: "+what, tell(c), tell(x))
	}
}

// Each of a copy and its origin is changed by itself, also where a change that pends brings a file that is gone from the directory by now.
func TestCopyAndOriginAreApart(t *testing.T) {
	changes := []call{put("d", "zz"), sync("d"), cut("d", 1), put("a", "z"), sync("a"), cut("a", 0), rename("d", "a"), remove("a"), create("x"), syncDir()}
	for i, o := range changes {
		for _, turned := range []bool{false, true} {
			d := several(t)
			c := d.Copy()
			if turned {
				d, c = c, d
			}
			was := tell(d)
			must(t, c, o)
			same(t, fmt.Sprint("P11.9: the other one stays, change ", i), tell(d), was)
			arm(t, c, api.Fault{At: 1, Kind: api.FaultPower})
			same(t, "a fault of one", syncDir().on(c), answer{err: api.ErrDown})
			same(t, fmt.Sprint("P11.9: the other one stays, a fault, ", i), tell(d), was)
			for dir := range 6 {
				e := d.Copy()
				e.Crash(api.Fate{Dir: dir, Keeps: keeps(api.Keep{N: 1, Junk: []byte("?????")}, api.Keep{N: 2})})
				same(t, fmt.Sprint("P11.9: the other one stays, a Crash, ", i), tell(d), was)
			}
			must(t, d, syncDir())
		}
	}
}

// Files of a copy have room of their own behind their bytes, too.
func TestAppendsToCopiesAreApart(t *testing.T) {
	d := lay(t, 1<<16, create("a"), syncDir())
	for i := range 200 {
		must(t, d, put("a", "0123456789"))
		if i%7 == 0 {
			must(t, d, sync("a"))
		}
		c := d.Copy()
		must(t, c, put("a", "copy"), sync("a"))
		must(t, d, put("a", "mine"), sync("a"))
		for x, want := range map[*disk.Disk]string{c: "copy", d: "mine"} {
			f, l := x.Files()[0].Bytes, x.Lasting()[0].Bytes
			if !bytes.HasSuffix(f, []byte(want)) || !bytes.HasSuffix(l, []byte(want)) {
				t.Fatalf("P11.9: Append to a copy and its origin: %q, %q, want %q at the end", f, l, want)
			}
		}
	}
}
