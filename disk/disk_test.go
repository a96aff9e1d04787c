package disk_test

import (
	"bytes"
	"fmt"
	"math"
	"slices"
	"strings"
	"testing"

	"flume/api"
	"flume/disk"
)

// same holds what was answered against what the document asks.
func same(t *testing.T, what string, got, want any) {
	t.Helper()
	if g, w := fmt.Sprintf("%+v", got), fmt.Sprintf("%+v", want); g != w {
		t.Errorf("%s: %s, want %s", what, g, w)
	}
}

// must do operations that are to be OK, with all their bytes.
func must(t *testing.T, d *disk.Disk, calls ...call) {
	t.Helper()
	for _, c := range calls {
		if got := c.on(d); got != (answer{n: len(c.data)}) {
			t.Fatalf("%+v: %+v", c, got)
		}
	}
}

func create(s string) call        { return call{op: opCreate, name: s} }
func put(s, data string) call     { return call{op: opAppend, name: s, data: data} }
func sync(s string) call          { return call{op: opSync, name: s} }
func cut(s string, size int) call { return call{op: opCut, name: s, size: size} }
func rename(s, to string) call    { return call{op: opRename, name: s, to: to} }
func remove(s string) call        { return call{op: opRemove, name: s} }
func syncDir() call               { return call{op: opSyncDir} }

// lay makes a disk on which those operations were done.
func lay(t *testing.T, most int, calls ...call) *disk.Disk {
	t.Helper()
	d := disk.New(most)
	if d == nil {
		t.Fatalf("P11.1: New(%d) is nil", most)
	}
	must(t, d, calls...)
	return d
}

func arm(t *testing.T, d *disk.Disk, fs ...api.Fault) {
	t.Helper()
	if err := d.Arm(fs...); err != api.OK {
		t.Fatalf("P11.5: Arm(%v): %d", fs, err)
	}
}

// files writes a list of files down as `a:ab c:`, in its order.
func files(list []api.File) string {
	var l []string
	for _, f := range list {
		l = append(l, f.Name+":"+string(f.Bytes))
	}
	return strings.Join(l, " ")
}

func tails(list []api.Tail) string {
	var l []string
	for _, f := range list {
		l = append(l, fmt.Sprint(f.Name, ":", f.N))
	}
	return strings.Join(l, " ")
}

func keeps(ks ...api.Keep) []api.Keep { return ks }

func TestExamples(t *testing.T) {
	d := lay(t, 100, create("a"), put("a", "ab"), sync("a"))
	d.Crash(api.Fate{})
	l, err := d.List()
	same(t, "P11.8: the name did not last", len(l), 0)
	same(t, "P11.8: the name did not last", err, api.OK)

	must(t, d, create("a"), syncDir(), put("a", "abc"))
	same(t, "P11.7: Tails(0)", d.Tails(0), []api.Tail{{Name: "a", N: 3}})

	d.Crash(api.Fate{Keeps: keeps(api.Keep{N: 1, Junk: []byte("xyz")})})
	b, err := d.Read("a", 0, 3)
	same(t, "P11.8: one byte and junk", string(b), "axy")
	same(t, "P11.8: one byte and junk", err, api.OK)

	arm(t, d, api.Fault{At: 1, Kind: api.FaultIO})
	same(t, "a FaultIO at Append", put("a", "d").on(d), answer{err: api.ErrIO})
	must(t, d, put("a", "e"), sync("a"))
	same(t, "P11.7: Lasting", files(d.Lasting()), "a:axye")

	must(t, d, put("a", "f"))
	arm(t, d, api.Fault{At: 1, Kind: api.FaultIO})
	same(t, "a FaultIO at Sync", sync("a").on(d), answer{err: api.ErrIO})
	must(t, d, sync("a"))
	b, _ = d.Read("a", 4, 1)
	same(t, "P11.4: a spoilt byte is read as it was", b, []byte{0x66})
	d.Crash(api.Fate{})
	b, _ = d.Read("a", 4, 1)
	same(t, "P11.8: a spoilt byte behind a Crash", b, []byte{0})

	same(t, "P11.3: too many bytes", put("a", strings.Repeat("x", 200)).on(d), answer{n: 95, err: api.ErrFull})
	same(t, "P11.6: Appends", d.Count().Appends, 6)
}

func TestNew(t *testing.T) {
	for _, most := range []int{-1, math.MinInt, api.MaxDisk + 1, math.MaxInt} {
		if disk.New(most) != nil {
			t.Errorf("P11.1: New(%d) is a disk", most)
		}
	}
	for _, most := range []int{0, 1, api.MaxDisk} {
		d := lay(t, most)
		same(t, "P11.1: an empty disk", tell(d), "up true counts "+fmt.Sprint(api.Counts{})+" pending 0\nlist []\n")
		must(t, d, create("a"), put("a", ""))
		n, err := d.Append("a", make([]byte, most))
		same(t, "P11.1: all that it holds", []int{n, int(err)}, []int{most, 0})
		same(t, "P11.1: one byte more", put("a", "x").on(d), answer{err: api.ErrFull})
		must(t, d, put("a", ""))
		n, _ = d.Size("a")
		same(t, "P11.1: what it holds", n, most)
	}
}

func fileName(i int) string { return fmt.Sprintf("f%03d", i) }

func TestMostFiles(t *testing.T) {
	d := lay(t, 10)
	for i := range 255 {
		must(t, d, create(fileName(i)))
	}
	same(t, "P11.2: the 256th file", create(fileName(255)).on(d), answer{})
	was := tell(d)
	same(t, "P11.2: the 257th file", create("x").on(d), answer{err: api.ErrMany})
	same(t, "P11.2: one that there is, of 256", create(fileName(7)).on(d), answer{err: api.ErrExists})
	same(t, "P11.2: no name, at 256", create("X").on(d), answer{err: api.ErrName})
	same(t, "P11.2: behind what was refused", tell(d), was)
	l, _ := d.List()
	same(t, "P11.4: List of 256", len(l), 256)
	must(t, d, rename(fileName(3), "x"))
	same(t, "P11.2: the 257th, behind a Rename", create("y").on(d), answer{err: api.ErrMany})
	must(t, d, remove(fileName(4)), create("y"))
	same(t, "P11.2: the 257th, behind a Remove and a Create", create("z").on(d), answer{err: api.ErrMany})
	must(t, d, rename("x", "y"), create("z"))
	// The files that count are those of the directory, not those that last.
	must(t, d, syncDir(), remove("y"))
	same(t, "P11.2: a Create where 256 files last", create("w").on(d), answer{})
	same(t, "P11.2: and one more", create("v").on(d), answer{err: api.ErrMany})
	d.Crash(api.Fate{Dir: 0})
	same(t, "P11.2: 256 files behind a Crash", create("w").on(d), answer{err: api.ErrMany})
	d.Crash(api.Fate{Dir: 0})
	same(t, "P11.8: the files are there", len(d.Files()), 256)
}

// Every reason of a refusal at each call that may have it, the first one where several hold.
func TestRefused(t *testing.T) {
	long := strings.Repeat("a", 65)
	d := lay(t, 10, create("a"), put("a", "abc"), sync("a"), put("a", "de"), syncDir(), create("b"))
	was := tell(d)
	arm(t, d, api.Fault{At: 1, Kind: api.FaultIO})
	for _, x := range []struct {
		c    call
		want api.Errno
	}{
		{create("a"), api.ErrExists}, {create("b"), api.ErrExists},
		{put("c", "x"), api.ErrNone}, {put("c", ""), api.ErrNone},
		{sync("c"), api.ErrNone}, {cut("c", 0), api.ErrNone}, {cut("c", -1), api.ErrNone}, {remove("c"), api.ErrNone},
		{rename("c", "d"), api.ErrNone}, {rename("c", "a"), api.ErrNone}, {rename("c", "c"), api.ErrNone},
		{cut("a", -1), api.ErrBounds}, {cut("a", 6), api.ErrBounds}, {cut("a", math.MinInt), api.ErrBounds}, {cut("a", math.MaxInt), api.ErrBounds},
		{cut("b", 1), api.ErrBounds}, {cut("b", -1), api.ErrBounds},
	} {
		same(t, fmt.Sprintf("P11.2: %+v", x.c), x.c.on(d), answer{err: x.want})
	}
	for _, s := range []string{"", "-", "a-", ".a", "A", "a b", "a/b", "a_b", "é", "a\x00", long} {
		for _, c := range []call{
			create(s), put(s, "x"), put(s, ""), sync(s), cut(s, 0), cut(s, -1), remove(s),
			rename(s, "c"), rename("a", s), rename("c", s), rename(s, "a"), rename(s, s),
		} {
			same(t, fmt.Sprintf("P11.2: %+v", c), c.on(d), answer{err: api.ErrName})
		}
	}
	same(t, "P11.2: behind all that was refused", tell(d), was)
	same(t, "P11.2: the fault is still to come", put("a", "x").on(d), answer{err: api.ErrIO})
}

func TestLongestName(t *testing.T) {
	long := strings.Repeat("n", 64)
	d := lay(t, 10, create(long), put(long, "x"), rename(long, "a"), rename("a", long), sync(long), syncDir())
	same(t, "P11.2: a name of 64 bytes", files(d.Lasting()), long+":x")
}

// downDisk is one that lost its power at an Append of which one byte was done; a Create pends.
func downDisk(t *testing.T) *disk.Disk {
	t.Helper()
	d := lay(t, 10, create("a"), put("a", "ab"), sync("a"), syncDir(), create("b"))
	arm(t, d, api.Fault{At: 1, Kind: api.FaultPower, Part: 1})
	same(t, "FaultPower at Append", put("a", "xyz").on(d), answer{n: 1, err: api.ErrDown})
	return d
}

func TestDown(t *testing.T) {
	d := downDisk(t)
	same(t, "P11.7: Up", d.Up(), false)
	was := tell(d)
	for _, c := range []call{
		create("c"), create("a"), create("-"), put("a", "x"), put("a", ""), put("c", "x"), put("-", "x"), sync("a"), sync("c"), sync("-"),
		cut("a", 0), cut("a", -1), cut("c", 0), cut("-", 0), rename("a", "c"), rename("c", "a"), rename("-", "c"), rename("a", "-"),
		remove("a"), remove("c"), remove("-"), syncDir(),
	} {
		same(t, fmt.Sprintf("P11.2: down: %+v", c), c.on(d), answer{err: api.ErrDown})
	}
	for _, s := range []string{"a", "b", "c", "-"} {
		for _, off := range []int{-1, 0, 1, 9} {
			b, err := d.Read(s, off, 1)
			same(t, "P11.4: Read of a disk that is down", []int{len(b), int(err)}, []int{0, int(api.ErrDown)})
		}
		n, err := d.Size(s)
		same(t, "P11.4: Size of a disk that is down", []int{n, int(err)}, []int{0, int(api.ErrDown)})
	}
	l, err := d.List()
	same(t, "P11.4: List of a disk that is down", []int{len(l), int(err)}, []int{0, int(api.ErrDown)})
	same(t, "P11.2: behind all that was refused", tell(d), was)
	same(t, "P11.7: Files of a disk that is down", files(d.Files()), "a:abx b:")
	same(t, "P11.7: Lasting of a disk that is down", files(d.Lasting()), "a:ab")
	same(t, "P11.7: Tails of a disk that is down", tails(d.Tails(1)), "a:1 b:0")
	same(t, "P11.7: Pending of a disk that is down", d.Pending(), 1)
	same(t, "P11.6: Count of a disk that is down", d.Count(), api.Counts{Creates: 2, Appends: 2, Syncs: 1, DirSyncs: 1, All: 6, Bytes: 3})
	c := d.Copy()
	same(t, "P11.9: a copy of a disk that is down", tell(c), was)
	d.Crash(api.Fate{Dir: 1, Keeps: keeps(api.Keep{N: 1})})
	same(t, "P11.8: a disk that was down", files(d.Files()), "a:abx b:")
	same(t, "P11.8: is up", d.Up(), true)
	must(t, d, put("b", "z"))
	same(t, "P11.9: the copy is down", c.Up(), false)
}

func TestArmOfDownDisk(t *testing.T) {
	d := downDisk(t)
	same(t, "P11.5: down, wrong", d.Arm(api.Fault{}), api.ErrArg)
	same(t, "P11.5: down", d.Arm(api.Fault{At: 1, Kind: api.FaultIO}), api.OK)
	same(t, "P11.5: it stays down", d.Up(), false)
	d.Crash(api.Fate{Dir: 1})
	must(t, d, put("a", "x"))
}

func TestRead(t *testing.T) {
	const text = "abcdef"
	d := lay(t, 20, create("a"), put("a", "abc"), sync("a"), put("a", "def"), create("b"))
	far := []int{math.MinInt, math.MinInt + 1, math.MaxInt - 1, math.MaxInt, 1 << 32, -1 << 32}
	var places []int
	for i := -3; i <= len(text)+3; i++ {
		places = append(places, i)
	}
	places = append(places, far...)
	was := tell(d)
	for _, off := range places {
		for _, n := range places {
			want, wantErr := "", api.ErrBounds
			if off >= 0 && off <= len(text) && n >= 0 && n <= len(text)-off {
				want, wantErr = text[off:off+n], api.OK
			}
			if b, err := d.Read("a", off, n); string(b) != want || err != wantErr {
				t.Errorf("P11.4: Read(%d, %d): %q, %d, want %q, %d", off, n, b, err, want, wantErr)
			}
			wantErr = api.ErrBounds
			if off == 0 && n == 0 {
				wantErr = api.OK
			}
			if b, err := d.Read("b", off, n); len(b) > 0 || err != wantErr {
				t.Errorf("P11.4: an empty file: Read(%d, %d): %q, %d, want %d", off, n, b, err, wantErr)
			}
		}
	}
	same(t, "P11.4: reading changes nothing", tell(d), was)
}

func TestReadAndSizeErrors(t *testing.T) {
	d := lay(t, 20, create("a"), put("a", "abc"))
	for s, want := range map[string]api.Errno{"b": api.ErrNone, "": api.ErrName, "-": api.ErrName, "B": api.ErrName, strings.Repeat("a", 65): api.ErrName} {
		for _, off := range []int{0, -1, 9} {
			b, err := d.Read(s, off, 0)
			same(t, "P11.4: Read of "+s, []int{len(b), int(err)}, []int{0, int(want)})
		}
		n, err := d.Size(s)
		same(t, "P11.4: Size of "+s, []int{n, int(err)}, []int{0, int(want)})
	}
	n, err := d.Size("a")
	same(t, "P11.4: Size", []int{n, int(err)}, []int{3, 0})
}

// Reading is no operation: no fault befalls it, and it is not counted.
func TestReadingIsNoOperation(t *testing.T) {
	for kind := api.FaultIO; kind <= api.FaultPanic; kind++ {
		d := lay(t, 20, create("a"), put("a", "abc"))
		was := d.Count()
		arm(t, d, api.Fault{At: 1, Kind: kind})
		for range 3 {
			b, err := d.Read("a", 1, 2)
			same(t, "P11.4: Read", string(b)+fmt.Sprint(err), "bc0")
			n, err := d.Size("a")
			same(t, "P11.4: Size", []int{n, int(err)}, []int{3, 0})
			l, err := d.List()
			same(t, "P11.4: List", fmt.Sprint(l, err), "[a] 0")
			tell(d)
			d.Copy()
		}
		same(t, "P11.6: they are not counted", d.Count(), was)
		if got := syncDir().on(d); got == (answer{}) && kind != api.FaultFull {
			t.Errorf("P11.4: the fault %d was used up", kind)
		}
	}
}

func TestListInOrder(t *testing.T) {
	d := lay(t, 20)
	for _, s := range []string{"b", "a.b", "a", "a-b", "9", "ab", "z", "0", "a0", "seg-0000000000000001.log"} {
		must(t, d, create(s))
	}
	want := []string{"0", "9", "a", "a-b", "a.b", "a0", "ab", "b", "seg-0000000000000001.log", "z"}
	l, err := d.List()
	same(t, "P11.4: List", l, want)
	same(t, "P11.4: List", err, api.OK)
	must(t, d, syncDir())
	for i, s := range want {
		same(t, "P11.7: Files in order", d.Files()[i].Name, s)
		same(t, "P11.7: Lasting in order", d.Lasting()[i].Name, s)
		same(t, "P11.7: Tails in order", d.Tails(0)[i].Name, s)
	}
}

func TestCount(t *testing.T) {
	d := lay(t, 5, create("a"), create("b"), put("a", "ab"), put("a", ""), sync("a"), sync("a"), sync("a"), cut("a", 1), cut("a", 1), rename("a", "a"), rename("a", "c"), remove("b"), syncDir(), syncDir())
	want := api.Counts{Creates: 2, Appends: 2, Syncs: 3, Cuts: 2, Renames: 2, Removes: 1, DirSyncs: 2, All: 14, Bytes: 2}
	same(t, "P11.6: Count", d.Count(), want)
	put("c", "vwxyz").on(d)
	want.Appends, want.All, want.Bytes = 3, 15, 6
	same(t, "P11.6: bytes that did not fit are not counted", d.Count(), want)
	d.Crash(api.Fate{})
	same(t, "P11.8: numbers go on", d.Count(), want)
	must(t, d, syncDir())
	want.DirSyncs, want.All = 3, 16
	same(t, "P11.8: numbers go on", d.Count(), want)
}

// One of each that a fault befell; bytes count as far as they were appended.
func TestCountOfFaults(t *testing.T) {
	for kind := api.FaultIO; kind <= api.FaultPanic; kind++ {
		d := lay(t, 20, create("a"), put("a", "ab"))
		for i, c := range []call{create("b"), put("a", "xyz"), sync("a"), cut("a", 1), rename("a", "a"), remove("a"), syncDir()} {
			d = d.Copy()
			was := d.Count()
			arm(t, d, api.Fault{At: 1, Kind: kind, Part: 2})
			c.on(d)
			p := plainDisk{counts: was}
			p.count(i)
			if c.op == opAppend {
				p.counts.Bytes += 2
			}
			same(t, fmt.Sprintf("P11.6: a fault %d befell %+v", kind, c), d.Count(), p.counts)
			d.Crash(api.Fate{Dir: 9, Keeps: keeps(api.Keep{N: 9})})
			if d.Create("a") == api.OK {
				must(t, d, put("a", "ab"))
			}
		}
	}
}

// noDisks are those that New did not make.
func noDisks() []*disk.Disk { return []*disk.Disk{nil, {}, new(disk.Disk)} }

func TestNoDisk(t *testing.T) {
	for _, d := range noDisks() {
		for range 2 {
			for _, c := range []call{
				create("a"), create("-"), put("a", "x"), put("a", ""), put("-", "x"), sync("a"), sync("-"), cut("a", 0), cut("a", -1), cut("-", 0),
				rename("a", "b"), rename("a", "a"), rename("-", "-"), remove("a"), remove("-"), syncDir(),
			} {
				same(t, fmt.Sprintf("P11.9: no disk: %+v", c), c.on(d), answer{err: api.ErrDown})
			}
			for _, fs := range [][]api.Fault{nil, {{At: 1, Kind: api.FaultIO}}, {{}}, make([]api.Fault, 65)} {
				same(t, "P11.9: no disk: Arm", d.Arm(fs...), api.ErrDown)
			}
			b, err := d.Read("a", -1, 1)
			same(t, "P11.9: no disk: Read", []int{len(b), int(err)}, []int{0, int(api.ErrDown)})
			n, err := d.Size("-")
			same(t, "P11.9: no disk: Size", []int{n, int(err)}, []int{0, int(api.ErrDown)})
			l, err := d.List()
			same(t, "P11.9: no disk: List", []int{len(l), int(err)}, []int{0, int(api.ErrDown)})
			same(t, "P11.9: no disk: Count", d.Count(), api.Counts{})
			for _, dir := range []int{math.MinInt, -1, 0, 1, math.MaxInt} {
				same(t, "P11.9: no disk: Tails", len(d.Tails(dir)), 0)
				d.Crash(api.Fate{Dir: dir, Keeps: keeps(api.Keep{N: 1, Junk: []byte("x")})})
			}
			same(t, "P11.9: no disk: Pending, Files, Lasting", []int{d.Pending(), len(d.Files()), len(d.Lasting())}, []int{0, 0, 0})
			same(t, "P11.9: no disk: Up", d.Up(), false)
			if d.Copy() != nil {
				t.Error("P11.9: no disk: Copy is one")
			}
		}
	}
}

func TestHandedInBytesAreNotKept(t *testing.T) {
	d := lay(t, 100, create("a"))
	room := []byte("abcdef")
	n, err := d.Append("a", room[:3])
	same(t, "P11.3: Append", []int{n, int(err)}, []int{3, 0})
	same(t, "P0.3: what is handed in stays, its spare room too", string(room), "abcdef")
	copy(room, "??????")
	same(t, "P11.9: what was handed in, written over", files(d.Files()), "a:abc")
	must(t, d, put("a", "xyz"))
	same(t, "P11.9: what was handed in is not written into", string(room), "??????")

	arm(t, d, api.Fault{At: 1, Kind: api.FaultIO, Part: 1})
	part := []byte("pq")
	d.Append("a", part)
	copy(part, "??")
	same(t, "P11.9: what was handed in, written over behind a fault", files(d.Files()), "a:abcxyzp")
}

func TestHandedInFateIsNotKept(t *testing.T) {
	d := lay(t, 100, create("a"), syncDir(), put("a", "abcdef"))
	junk := []byte("vwxyz")
	f := api.Fate{Keeps: keeps(api.Keep{N: 1, Junk: junk[:3]}, api.Keep{N: 7, Junk: junk})}
	d.Crash(f)
	same(t, "P0.3: junk that is handed in stays, its spare room too", string(junk), "vwxyz")
	same(t, "P0.3: a fate that is handed in stays", fmt.Sprint(f), fmt.Sprint(api.Fate{Keeps: keeps(api.Keep{N: 1, Junk: []byte("vwx")}, api.Keep{N: 7, Junk: []byte("vwxyz")})}))
	copy(junk, "?????")
	f.Keeps[0] = api.Keep{N: 9}
	same(t, "P11.9: junk, written over", files(d.Files())+" "+files(d.Lasting()), "a:avwx a:avwx")
	must(t, d, put("a", "1234"))
	same(t, "P11.9: junk is not written into", string(junk), "?????")
}

func TestHandedInFaultsAreNotKept(t *testing.T) {
	d := lay(t, 100, create("a"))
	fs := []api.Fault{{At: 2, Kind: api.FaultIO}, {At: 3, Kind: api.FaultFull}}
	arm(t, d, fs...)
	same(t, "P0.3: faults that are handed in stay", fs, []api.Fault{{At: 2, Kind: api.FaultIO}, {At: 3, Kind: api.FaultFull}})
	fs[0] = api.Fault{At: 1, Kind: api.FaultPower}
	fs[1] = api.Fault{}
	must(t, d, put("a", "x"))
	same(t, "P11.9: faults, written over", put("a", "x").on(d), answer{err: api.ErrIO})
	same(t, "P11.9: faults, written over", put("a", "x").on(d), answer{err: api.ErrFull})
}

// spoil writes over a list, its spare room too, and appends to it.
func spoil(b []byte) {
	_ = append(b, "!!!!!!!!"...)
	for i := range b[:cap(b)] {
		b[:cap(b)][i] = '!'
	}
}

func TestAnswersAreNewMemory(t *testing.T) {
	d := lay(t, 100, create("a"), put("a", "abc"), sync("a"), create("b"), put("b", "pqr"), syncDir(), put("a", "de"))
	was := tell(d)
	for range 2 {
		for off := range 6 {
			b, _ := d.Read("a", off, 5-off)
			other, _ := d.Read("a", off, 5-off)
			spoil(b)
			same(t, "P11.9: Read, another answer", string(other), "abcde"[off:])
		}
		for _, ask := range []func() []api.File{d.Files, d.Lasting} {
			l, other := ask(), ask()
			want := files(other)
			for i := range l {
				spoil(l[i].Bytes)
			}
			for i, f := range l {
				same(t, "P0.3: no two lists share memory", bytes.Count(f.Bytes, []byte("!")), len(other[i].Bytes))
			}
			_ = append(l, api.File{Name: "x"})
			clear(l[:cap(l)])
			same(t, "P11.9: files, another answer", files(other), want)
		}
		ts, other := d.Tails(0), d.Tails(0)
		clear(ts[:cap(ts)])
		same(t, "P11.9: Tails, another answer", tails(other), "a:2 b:3")
		l, _ := d.List()
		clear(l[:cap(l)])
		same(t, "P11.9: what was answered, written over", tell(d), was)
	}
	if !slices.Equal(d.Tails(0), d.Tails(-5)) {
		t.Error("P11.7: Tails below 0")
	}
}

// None of a file's lists shares memory with another: bytes and lasting bytes go their own ways behind a Sync, a Cut, a Crash.
func TestBytesAndLastingBytesAreApart(t *testing.T) {
	d := lay(t, 100, create("a"), syncDir(), put("a", "abc"), sync("a"), cut("a", 1), put("a", "xy"))
	same(t, "P11.3: bytes behind a Cut", files(d.Files())+" "+files(d.Lasting()), "a:axy a:a")
	d.Crash(api.Fate{Keeps: keeps(api.Keep{N: 1, Junk: []byte("j")})})
	must(t, d, cut("a", 1), put("a", "pq"))
	same(t, "P11.8: bytes behind a Crash and a Cut", files(d.Files())+" "+files(d.Lasting()), "a:apq a:a")
	must(t, d, sync("a"), cut("a", 2), put("a", "s"))
	same(t, "P11.3: bytes behind a Sync and a Cut", files(d.Files())+" "+files(d.Lasting()), "a:aps a:ap")
}
