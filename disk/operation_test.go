package disk_test

import (
	"strings"
	"testing"

	"flume/api"
	"flume/disk"
)

func TestCreate(t *testing.T) {
	d := lay(t, 10, create("b"), create("a"))
	same(t, "P11.3: Create", body(d), "file a \"\"\nfile b \"\"\ntail 1 b 0\ntail 2 a 0\ntail 2 b 0\ntail 3 a 0\ntail 3 b 0\nlist [a b]\n")
	same(t, "P11.7: Pending", d.Pending(), 2)
}

func TestAppend(t *testing.T) {
	d := lay(t, 10, create("a"), create("b"), put("a", "abc"), put("b", "x"), put("a", "de"))
	same(t, "P11.3: in order, behind the file's bytes", files(d.Files()), "a:abcde b:x")
	same(t, "P11.3: nothing lasts", files(d.Lasting()), "")
	must(t, d, syncDir())
	same(t, "P11.3: no byte lasts", files(d.Lasting()), "a: b:")
	n, err := d.Append("a", nil)
	same(t, "P11.3: Append of nil", []int{n, int(err)}, []int{0, 0})
}

func TestAppendAtTheLimit(t *testing.T) {
	for _, x := range []struct {
		data, want string
		err        api.Errno
	}{
		{"", "", api.OK}, {"1", "1", api.OK}, {"123", "123", api.OK}, {"1234", "1234", api.OK},
		{"12345", "1234", api.ErrFull}, {strings.Repeat("123456789", 1000), "1234", api.ErrFull},
	} {
		d := lay(t, 10, create("a"), put("a", "ab"), sync("a"), create("b"), put("b", "pqrs"))
		same(t, "P11.3: Append of "+x.data, put("a", x.data).on(d), answer{n: len(x.want), err: x.err})
		same(t, "P11.3: Append of "+x.data, files(d.Files()), "a:ab"+x.want+" b:pqrs")
		same(t, "P11.6: Bytes", d.Count().Bytes, 6+len(x.want))
	}
	d := lay(t, 6, create("a"), put("a", "ab"), create("b"), put("b", "pqrs"))
	for range 2 {
		same(t, "P11.3: nothing fits", put("a", "x").on(d), answer{err: api.ErrFull})
		same(t, "P11.3: no bytes fit in a full disk", put("a", "").on(d), answer{})
	}
}

// What counts are the bytes of the directory's files: those that a Cut, a Remove or a Rename takes away make room.
func TestRoom(t *testing.T) {
	for _, x := range []struct {
		c    call
		room int
	}{{sync("a"), 0}, {cut("b", 1), 3}, {remove("b"), 4}, {rename("c", "b"), 4}, {rename("b", "c"), 0}, {rename("b", "d"), 0}, {rename("b", "b"), 0}, {create("e"), 0}, {syncDir(), 0}} {
		d := lay(t, 6, create("a"), put("a", "ab"), create("b"), put("b", "pqrs"), sync("b"), create("c"), syncDir(), x.c)
		n, _ := d.Append("a", []byte("123456"))
		same(t, "P11.1: room", n, x.room)
	}
}

// overfull is a disk for 10 bytes with 15, behind a Crash: a Rename that took a file's room away did not last.
func overfull(t *testing.T) *disk.Disk {
	t.Helper()
	d := lay(t, 10, create("a"), put("a", "abcde"), sync("a"), create("b"), put("b", "pqrst"), sync("b"), syncDir(), rename("b", "a"), put("a", "vwxyz"))
	d.Crash(api.Fate{Keeps: keeps(api.Keep{}, api.Keep{N: 5})})
	same(t, "P11.8: more than fits", files(d.Files()), "a:abcde b:pqrstvwxyz")
	return d
}

func TestAppendBehindACrashThatLeftMore(t *testing.T) {
	d := overfull(t)
	same(t, "P11.1: none fit", put("a", "x").on(d), answer{err: api.ErrFull})
	same(t, "P11.1: of none all fit", put("a", "").on(d), answer{})
	must(t, d, cut("b", 5))
	same(t, "P11.1: none fit yet", put("a", "x").on(d), answer{err: api.ErrFull})
	must(t, d, cut("b", 4))
	same(t, "P11.1: one fits", put("a", "xy").on(d), answer{n: 1, err: api.ErrFull})
	d = overfull(t)
	arm(t, d, api.Fault{At: 1, Kind: api.FaultIO, Part: 3})
	same(t, "P11.1: none fit, with a fault", put("a", "x").on(d), answer{err: api.ErrIO})
	must(t, d, sync("b"), syncDir())
	same(t, "P11.1: nothing is lost", files(d.Lasting()), "a:abcde b:pqrstvwxyz")
}

func TestSync(t *testing.T) {
	d := lay(t, 20, create("a"), create("b"), syncDir(), sync("a"))
	same(t, "P11.3: Sync of an empty file", files(d.Lasting()), "a: b:")
	must(t, d, put("a", "ab"), put("b", "xy"), sync("a"))
	same(t, "P11.3: Sync of one file", files(d.Lasting()), "a:ab b:")
	must(t, d, sync("a"))
	same(t, "P11.3: Sync of no tail", files(d.Lasting()), "a:ab b:")
	must(t, d, put("a", "c"), put("a", "de"), sync("a"))
	same(t, "P11.3: a tail behind what lasts", files(d.Lasting()), "a:abcde b:")
	same(t, "P11.3: bytes stay", files(d.Files()), "a:abcde b:xy")
	same(t, "P11.7: Tails", tails(d.Tails(0)), "a:0 b:2")
}

// failSync lets a Sync of a fail.
func failSync(t *testing.T, d *disk.Disk) {
	t.Helper()
	arm(t, d, api.Fault{At: 1, Kind: api.FaultIO})
	same(t, "a FaultIO at Sync", sync("a").on(d), answer{err: api.ErrIO})
}

func TestSyncBehindAFailedOne(t *testing.T) {
	for _, x := range []struct {
		what         string
		behind       []call
		bytes, lasts string
	}{
		{"at once", nil, "abcd", "ab\x00\x00"},
		{"with bytes appended", []call{put("a", "ef")}, "abcdef", "ab\x00\x00ef"},
		{"with nothing appended", []call{put("a", "")}, "abcd", "ab\x00\x00"},
		{"cut to nothing new", []call{cut("a", 4)}, "abcd", "ab\x00\x00"},
		{"cut within the marks", []call{cut("a", 3)}, "abc", "ab\x00"},
		{"cut within the marks, and appended", []call{cut("a", 3), put("a", "ef")}, "abcef", "ab\x00ef"},
		{"appended, cut within the marks, and appended", []call{put("a", "xyz"), cut("a", 3), put("a", "ef")}, "abcef", "ab\x00ef"},
		{"appended, cut behind the marks, and appended", []call{put("a", "xyz"), cut("a", 5), put("a", "ef")}, "abcdxef", "ab\x00\x00xef"},
		{"all marks cut away", []call{cut("a", 2)}, "ab", "ab"},
		{"all marks cut away, and appended", []call{cut("a", 2), put("a", "ef")}, "abef", "abef"},
		{"cut below what lasts", []call{cut("a", 1)}, "a", "a"},
		{"cut below what lasts, and appended", []call{cut("a", 1), put("a", "efg")}, "aefg", "aefg"},
		{"cut to none, and appended", []call{cut("a", 0), put("a", "efg")}, "efg", "efg"},
		{"renamed", []call{rename("a", "b"), rename("b", "a")}, "abcd", "ab\x00\x00"},
	} {
		d := lay(t, 20, create("a"), syncDir(), put("a", "ab"), sync("a"), put("a", "cd"))
		failSync(t, d)
		same(t, "a failed Sync makes nothing last", files(d.Lasting()), "a:ab")
		same(t, "a failed Sync: the bytes are read as they were", files(d.Files()), "a:abcd")
		same(t, "a failed Sync: the tail stays", tails(d.Tails(0)), "a:2")
		must(t, d, x.behind...)
		must(t, d, sync("a"))
		same(t, "P11.3: a Sync behind a failed one, "+x.what, files(d.Lasting()), "a:"+x.lasts)
		same(t, "P11.3: read as they were, "+x.what, files(d.Files()), "a:"+x.bytes)
		must(t, d, put("a", "z"), sync("a"))
		same(t, "P11.3: no mark is left, "+x.what, files(d.Lasting()), "a:"+x.lasts+"z")
		d.Crash(api.Fate{})
		same(t, "P11.8: "+x.what, files(d.Files()), "a:"+x.lasts+"z")
	}
}

func TestSyncBehindTwoFailedOnes(t *testing.T) {
	d := lay(t, 20, create("a"), syncDir(), put("a", "ab"))
	failSync(t, d)
	must(t, d, put("a", "cd"))
	failSync(t, d)
	must(t, d, put("a", "ef"), sync("a"))
	same(t, "P11.3: marked twice", files(d.Lasting()), "a:\x00\x00\x00\x00ef")
	// What a spoilt byte is read as still differs from what lasts: a failed Sync now has no tail to mark.
	failSync(t, d)
	must(t, d, sync("a"), put("a", "g"), sync("a"))
	same(t, "P11.3: a failed Sync of no tail", files(d.Lasting()), "a:\x00\x00\x00\x00efg")
	same(t, "P11.3: they are read as they were", files(d.Files()), "a:abcdefg")
	must(t, d, cut("a", 3), put("a", "h"), sync("a"))
	same(t, "P11.3: spoilt for good, cut", files(d.Lasting())+" "+files(d.Files()), "a:\x00\x00\x00h a:abch")
}

// A failed Sync marks the tail of its own file alone.
func TestMarksAreAFilesOwn(t *testing.T) {
	d := lay(t, 20, create("a"), create("b"), syncDir(), put("a", "ab"), put("b", "xy"))
	failSync(t, d)
	must(t, d, sync("b"), sync("a"))
	same(t, "a failed Sync of a", files(d.Lasting()), "a:\x00\x00 b:xy")
}

func TestCut(t *testing.T) {
	for size, want := range []struct{ bytes, lasts string }{{"", ""}, {"a", "a"}, {"ab", "ab"}, {"abc", "ab"}, {"abcd", "ab"}} {
		d := lay(t, 20, create("a"), put("a", "ab"), sync("a"), syncDir(), put("a", "cd"), create("b"), put("b", "xyz"))
		must(t, d, cut("a", size))
		same(t, "P11.3: Cut", files(d.Files()), "a:"+want.bytes+" b:xyz")
		same(t, "P11.3: Cut, what lasts", files(d.Lasting()), "a:"+want.lasts)
		same(t, "P11.3: nothing new pends", d.Pending(), 1)
		same(t, "P11.2: beyond what is left", cut("a", size+1).on(d), answer{err: api.ErrBounds})
		c := d.Copy()
		c.Crash(api.Fate{})
		same(t, "P11.3: a Cut lasts at once", files(c.Files()), "a:"+want.lasts)
		must(t, d, put("a", "z"), sync("a"))
		same(t, "P11.3: Append and Sync behind a Cut", files(d.Lasting()), "a:"+want.bytes+"z")
	}
	d := lay(t, 20, create("a"), cut("a", 0))
	same(t, "P11.3: Cut of an empty file", files(d.Files()), "a:")
}

func TestRenameOntoItself(t *testing.T) {
	d := lay(t, 20, create("a"), put("a", "ab"), sync("a"), syncDir(), put("a", "c"))
	was, counts := body(d), d.Count()
	must(t, d, rename("a", "a"))
	same(t, "P11.3: Rename onto itself", body(d), was)
	same(t, "P11.3: nothing pends", d.Pending(), 0)
	counts.Renames, counts.All = 1, counts.All+1
	same(t, "P11.3: an operation all the same", d.Count(), counts)
	arm(t, d, api.Fault{At: 1, Kind: api.FaultIO})
	same(t, "P11.3: a fault befalls it", rename("a", "a").on(d), answer{err: api.ErrIO})
}

func TestRename(t *testing.T) {
	d := lay(t, 20, create("a"), put("a", "ab"), sync("a"), create("b"), put("b", "xyz"), sync("b"), syncDir(), put("a", "cd"))
	must(t, d, rename("a", "c"))
	same(t, "P11.3: Rename to a new name", files(d.Files()), "b:xyz c:abcd")
	same(t, "P11.7: where it lasts", files(d.Lasting()), "a:ab b:xyz")
	same(t, "P11.7: its tail, under the name that lasts", tails(d.Tails(0)), "a:2 b:0")
	same(t, "P11.7: its tail, under the new name", tails(d.Tails(1)), "b:0 c:2")
	must(t, d, put("c", "e"), sync("c"), put("c", "f"))
	same(t, "P11.3: it is one file under both names", files(d.Lasting())+" "+tails(d.Tails(0)), "a:abcde b:xyz a:1 b:0")
	must(t, d, rename("c", "b"))
	same(t, "P11.3: Rename onto a file that is there", files(d.Files()), "b:abcdef")
	same(t, "P11.3: the lasting directory stays", files(d.Lasting()), "a:abcde b:xyz")
	same(t, "P11.2: from leads to none", sync("c").on(d), answer{err: api.ErrNone})
	same(t, "P11.7: Pending", d.Pending(), 2)
	for dir, want := range []string{"a:abcdef b:xyz", "b:xyz c:abcdef", "b:abcdef"} {
		c := d.Copy()
		c.Crash(api.Fate{Dir: dir, Keeps: keeps(api.Keep{N: 9}, api.Keep{N: 9})})
		same(t, "P11.8: behind a Crash", files(c.Files()), want)
	}
	must(t, d, syncDir())
	same(t, "P11.3: SyncDir", files(d.Lasting()), "b:abcde")
}

func TestRemoveAndCreateAgain(t *testing.T) {
	d := lay(t, 20, create("a"), put("a", "old"), sync("a"), syncDir(), put("a", "er"))
	must(t, d, remove("a"))
	same(t, "P11.3: Remove", files(d.Files())+"|"+files(d.Lasting()), "|a:old")
	same(t, "P11.2: the name leads to none", put("a", "x").on(d), answer{err: api.ErrNone})
	must(t, d, create("a"), put("a", "new"), sync("a"), put("a", "er"))
	same(t, "P11.3: another file", files(d.Files())+"|"+files(d.Lasting()), "a:newer|a:old")
	for dir, want := range []string{"a:older", "", "a:newer"} {
		c := d.Copy()
		c.Crash(api.Fate{Dir: dir, Keeps: keeps(api.Keep{N: 9})})
		same(t, "P11.8: without SyncDir between", files(c.Files()), want)
	}

	d = lay(t, 20, create("a"), put("a", "old"), sync("a"), syncDir(), put("a", "er"), remove("a"), syncDir())
	same(t, "P11.3: a Remove that lasts", files(d.Lasting()), "")
	must(t, d, create("a"), put("a", "new"), sync("a"), put("a", "er"))
	for dir, want := range []string{"", "a:newer"} {
		c := d.Copy()
		c.Crash(api.Fate{Dir: dir, Keeps: keeps(api.Keep{N: 9})})
		same(t, "P11.8: with SyncDir between", files(c.Files()), want)
	}
	must(t, d, syncDir())
	same(t, "P11.3: SyncDir", files(d.Lasting()), "a:new")
}

func TestSyncDir(t *testing.T) {
	d := lay(t, 20, create("a"), put("a", "ab"), create("b"), rename("b", "c"), create("d"), remove("d"))
	same(t, "P11.7: Pending", d.Pending(), 5)
	must(t, d, syncDir())
	same(t, "P11.7: nothing pends", d.Pending(), 0)
	same(t, "P11.3: names last, bytes do not", files(d.Lasting()), "a: c:")
	same(t, "P11.3: the files stay", files(d.Files()), "a:ab c:")
	was := body(d)
	must(t, d, syncDir())
	same(t, "P11.3: SyncDir of nothing", body(d), was)
	must(t, d, remove("c"), create("e"))
	same(t, "P11.3: the lasting directory does not go with the directory", files(d.Lasting()), "a: c:")
}
