package disk_test

import (
	"fmt"
	"math"
	"strings"
	"testing"

	"flume/api"
	"flume/disk"
)

// faulty is a disk for 10 bytes, of which 4 are left, with a lasting front and a tail, and a Create that pends.
func faulty(t *testing.T) *disk.Disk {
	t.Helper()
	return lay(t, 10, create("a"), put("a", "ab"), sync("a"), create("b"), syncDir(), put("a", "cd"), create("c"), put("c", "xy"))
}

// saved is what all files are behind a Crash that leaves all tails: marked bytes show as 0.
func saved(d *disk.Disk) string {
	c := d.Copy()
	c.Crash(api.Fate{Dir: 99, Keeps: keeps(api.Keep{N: 99}, api.Keep{N: 99}, api.Keep{N: 99})})
	return files(c.Files())
}

const allKept = "a:abcd b: c:xy"

// befall lets a fault befall c on a faulty disk.
func befall(t *testing.T, c call, kind, part int) (*disk.Disk, answer) {
	t.Helper()
	d := faulty(t)
	arm(t, d, api.Fault{At: 1, Kind: kind, Part: part})
	a := c.on(d)
	op := d.Count().All
	same(t, "P11.6: what a fault befell is counted", op, faulty(t).Count().All+1)
	if a.boom != 0 {
		same(t, "a panic's Op", a.boom, op)
		a.boom = 1
	}
	same(t, "P11.7: Up behind a fault", d.Up(), kind != api.FaultPower)
	return d, a
}

func TestFaultsOfPlainOperations(t *testing.T) {
	for _, c := range []call{create("d"), cut("a", 3), cut("a", 1), rename("a", "d"), rename("a", "b"), rename("a", "a"), remove("a"), syncDir()} {
		for _, part := range []int{0, 1, 99, math.MaxInt} {
			for kind, want := range []answer{api.FaultIO: {err: api.ErrIO}, api.FaultFull: {}, api.FaultPower: {err: api.ErrDown}, api.FaultPanic: {boom: 1}} {
				if kind == 0 {
					continue
				}
				if kind == api.FaultFull && c.op == opCreate {
					want = answer{err: api.ErrFull}
				}
				what := fmt.Sprintf("the fault %d at %+v", kind, c)
				d, a := befall(t, c, kind, part)
				same(t, what, a, want)
				behind := faulty(t)
				if want == (answer{}) {
					must(t, behind, c)
				}
				if kind == api.FaultPower {
					d.Crash(api.Fate{Dir: 99, Keeps: keeps(api.Keep{N: 99}, api.Keep{}, api.Keep{N: 99})})
					behind.Crash(api.Fate{Dir: 99, Keeps: keeps(api.Keep{N: 99}, api.Keep{}, api.Keep{N: 99})})
				}
				same(t, what+": the disk behind it", body(d), body(behind))
				same(t, what+": no byte is marked", saved(d), saved(behind))
				same(t, what+": what pends", d.Pending(), behind.Pending())
			}
		}
	}
}

func TestFaultsOfAppend(t *testing.T) {
	for _, x := range []struct {
		data string
		part int
		put  string
	}{
		{"123", 0, ""}, {"123", 1, "1"}, {"123", 2, "12"}, {"123", 3, "123"}, {"123", 4, "123"}, {"123", math.MaxInt, "123"},
		{"1234", 4, "1234"}, {"123456", 3, "123"}, {"123456", 4, "1234"}, {"123456", 5, "1234"}, {"123456", 6, "1234"}, {"123456", math.MaxInt, "1234"},
		{"", 0, ""}, {"", 5, ""},
	} {
		n := len(x.put)
		for kind, want := range []answer{api.FaultIO: {n: n, err: api.ErrIO}, api.FaultFull: {n: n, err: api.ErrFull}, api.FaultPower: {n: n, err: api.ErrDown}, api.FaultPanic: {boom: 1}} {
			if kind == 0 {
				continue
			}
			what := fmt.Sprintf("the fault %d, Part %d, at an Append of %q", kind, x.part, x.data)
			d, a := befall(t, put("a", x.data), kind, x.part)
			same(t, what, a, want)
			same(t, what+": files", files(d.Files()), "a:abcd"+x.put+" b: c:xy")
			same(t, what+": what lasts", files(d.Lasting()), "a:ab b:")
			same(t, what+": no byte is marked", saved(d), "a:abcd"+x.put+" b: c:xy")
			same(t, what+": Bytes", d.Count().Bytes, 6+n)
		}
	}
}

func TestFaultsOfSync(t *testing.T) {
	for _, part := range []int{0, 1, 99, math.MaxInt} {
		for kind, want := range []struct {
			a            answer
			lasts, saved string
		}{
			api.FaultIO:    {answer{err: api.ErrIO}, "a:ab b:", "a:ab\x00\x00 b: c:xy"},
			api.FaultFull:  {answer{}, "a:abcd b:", allKept},
			api.FaultPower: {answer{err: api.ErrDown}, "a:ab b:", allKept},
			api.FaultPanic: {answer{boom: 1}, "a:ab b:", "a:ab\x00\x00 b: c:xy"},
		} {
			if kind == 0 {
				continue
			}
			what := fmt.Sprintf("the fault %d, Part %d, at Sync", kind, part)
			d, a := befall(t, sync("a"), kind, part)
			same(t, what, a, want.a)
			same(t, what+": files", files(d.Files()), allKept)
			same(t, what+": what lasts", files(d.Lasting()), want.lasts)
			same(t, what+": marks", saved(d), want.saved)
			same(t, what+": what pends", d.Pending(), 1)
			if d.Up() {
				must(t, d, sync("a"))
				same(t, what+": a later Sync", files(d.Lasting())+" c:xy", want.saved)
				same(t, what+": read as they were", files(d.Files()), allKept)
			}
		}
	}
}

// A Sync that the power failed is not done and marks nothing, also what an earlier one marked stays so.
func TestPowerBehindAFailedSync(t *testing.T) {
	d := lay(t, 10, create("a"), syncDir(), put("a", "ab"))
	failSync(t, d)
	must(t, d, put("a", "cd"))
	arm(t, d, api.Fault{At: 1, Kind: api.FaultPower})
	same(t, "FaultPower at Sync", sync("a").on(d), answer{err: api.ErrDown})
	d.Crash(api.Fate{Keeps: keeps(api.Keep{N: 3})})
	same(t, "P11.8: marked ones as 0", files(d.Files()), "a:\x00\x00c")
	must(t, d, put("a", "e"), sync("a"))
	same(t, "P11.8: no byte is marked", files(d.Lasting()), "a:\x00\x00ce")
}

func TestPanicPassesOnAndTheDiskGoesOn(t *testing.T) {
	d := lay(t, 10, create("a"), syncDir())
	arm(t, d, api.Fault{At: 1, Kind: api.FaultPanic, Part: 2}, api.Fault{At: 2, Kind: api.FaultPanic}, api.Fault{At: 4, Kind: api.FaultPanic})
	same(t, "a panic's Op", put("a", "abc").on(d), answer{boom: 3})
	same(t, "a panic's Op", create("b").on(d), answer{boom: 4})
	must(t, d, put("a", "d"))
	same(t, "a panic's Op", sync("a").on(d), answer{boom: 6})
	same(t, "P11.7: Up", d.Up(), true)
	same(t, "the disk stays as it is then", tell(d), "up true counts "+fmt.Sprint(api.Counts{Creates: 2, Appends: 2, Syncs: 1, DirSyncs: 1, All: 6, Bytes: 3})+" pending 0\nfile a \"abd\"\nlasting a \"\"\ntail -1 a 3\ntail 0 a 3\ntail 1 a 3\nlist [a]\n")
	must(t, d, put("a", "e"), sync("a"))
	same(t, "a Sync behind one that panicked", files(d.Lasting()), "a:\x00\x00\x00e")
	d.Crash(api.Fate{})
	arm(t, d, api.Fault{At: 1, Kind: api.FaultPanic})
	same(t, "P11.8: numbers of operations go on", remove("a").on(d), answer{boom: 9})
}

// outcomes does an operation n times and tells at which of them there was an error, and which.
func outcomes(d *disk.Disk, n int) string {
	var l []string
	for i := range n {
		if a := rename("a", "a").on(d); a != (answer{}) {
			l = append(l, fmt.Sprintf("%d:%d", i+1, int64(a.err)+a.boom*1000))
		}
	}
	return strings.Join(l, " ")
}

func TestWhenFaultsCome(t *testing.T) {
	d := lay(t, 10, create("a"))
	arm(t, d, api.Fault{At: 1, Kind: api.FaultIO})
	same(t, "P11.5: at the first", outcomes(d, 5), "1:20")
	arm(t, d, api.Fault{At: 4, Kind: api.FaultIO}, api.Fault{At: 2, Kind: api.FaultIO}, api.Fault{At: 3, Kind: api.FaultFull})
	same(t, "P11.5: at later ones, in any order", outcomes(d, 9), "2:20 4:20")
	same(t, "P11.5: none left", outcomes(d, 300), "")
	arm(t, d, api.Fault{At: 1 << 32, Kind: api.FaultIO}, api.Fault{At: 1<<32 - 1, Kind: api.FaultPower})
	same(t, "P11.5: at the last that may be", outcomes(d, 1000), "")
	arm(t, d, api.Fault{At: 300, Kind: api.FaultIO})
	same(t, "P11.5: At is counted from when it was armed", outcomes(d, 400), "300:20")
}

func TestArmTakesThePlaceOfWhatWasArmed(t *testing.T) {
	d := lay(t, 10, create("a"))
	arm(t, d, api.Fault{At: 2, Kind: api.FaultIO}, api.Fault{At: 4, Kind: api.FaultIO})
	arm(t, d, api.Fault{At: 3, Kind: api.FaultIO})
	same(t, "P11.5: these and no others", outcomes(d, 9), "3:20")
	arm(t, d, api.Fault{At: 1, Kind: api.FaultIO})
	arm(t, d)
	same(t, "P11.5: none", outcomes(d, 9), "")
	arm(t, d, api.Fault{At: 3, Kind: api.FaultIO})
	must(t, d, syncDir())
	arm(t, d, api.Fault{At: 3, Kind: api.FaultIO})
	same(t, "P11.5: armed anew", outcomes(d, 9), "3:20")
	arm(t, d, api.Fault{At: 2, Kind: api.FaultIO})
	d.Crash(api.Fate{Dir: 9})
	same(t, "P11.8: no fault is armed", outcomes(d, 9), "")
}

// An operation of any kind counts for At; what is refused does not.
func TestAtCountsOperations(t *testing.T) {
	d := lay(t, 99, create("a"))
	arm(t, d, api.Fault{At: 8, Kind: api.FaultIO, Part: 1})
	for _, c := range []call{create("b"), put("b", "x"), sync("b"), cut("b", 0), rename("b", "c"), remove("c"), syncDir()} {
		must(t, d, c)
		same(t, "refused", create("a").on(d), answer{err: api.ErrExists})
		same(t, "refused", cut("a", 1).on(d), answer{err: api.ErrBounds})
	}
	same(t, "P11.5: the eighth", put("a", "xy").on(d), answer{n: 1, err: api.ErrIO})
	// What another fault befell counts too.
	arm(t, d, api.Fault{At: 1, Kind: api.FaultIO}, api.Fault{At: 2, Kind: api.FaultPanic}, api.Fault{At: 3, Kind: api.FaultFull}, api.Fault{At: 4, Kind: api.FaultPower})
	same(t, "P11.5: one behind the other", []answer{sync("a").on(d), sync("a").on(d), sync("a").on(d), sync("a").on(d)}, []answer{{err: api.ErrIO}, {boom: 11}, {}, {err: api.ErrDown}})
}

// many makes n faults, one at each of the next n operations, the last of them first.
func many(n int) (fs []api.Fault) {
	for i := range n {
		fs = append(fs, api.Fault{At: int64(n - i), Kind: api.FaultFull})
	}
	return
}

func TestMostFaults(t *testing.T) {
	d := lay(t, 10, create("a"))
	fs := many(64)
	fs[0].Kind, fs[63].Kind = api.FaultIO, api.FaultIO
	arm(t, d, fs...)
	same(t, "P11.5: 65 faults", d.Arm(many(65)...), api.ErrArg)
	same(t, "P11.5: 64 faults", outcomes(d, 200), "1:20 64:20")
}

func TestArmRefuses(t *testing.T) {
	good := api.Fault{At: 1, Kind: api.FaultIO}
	for what, f := range map[string]api.Fault{
		"At 0":             {At: 0, Kind: 1},
		"At -1":            {At: -1, Kind: 1},
		"the least At":     {At: math.MinInt64, Kind: 1},
		"At 2^32 + 1":      {At: 1<<32 + 1, Kind: 1},
		"the greatest At":  {At: math.MaxInt64, Kind: 1},
		"the same At":      {At: 1, Kind: 2},
		"Kind 0":           {At: 2, Kind: 0},
		"Kind 5":           {At: 2, Kind: 5},
		"Kind -1":          {At: 2, Kind: -1},
		"Kind 2^32 + 1":    {At: 2, Kind: 1<<32 + 1},
		"Part -1":          {At: 2, Kind: 1, Part: -1},
		"the least Part":   {At: 2, Kind: 1, Part: math.MinInt},
		"all of it is bad": {At: 0, Kind: 9, Part: -9},
	} {
		d := lay(t, 10, create("a"))
		arm(t, d, api.Fault{At: 2, Kind: api.FaultIO})
		was := tell(d)
		for _, fs := range [][]api.Fault{{good, f}, {good, {At: 3, Kind: 2}, f}, {f, good}} {
			same(t, "P11.5: "+what, d.Arm(fs...), api.ErrArg)
		}
		same(t, "P11.5: nothing has changed: "+what, tell(d), was)
		same(t, "P11.5: the faults armed before stand: "+what, outcomes(d, 5), "2:20")
	}
}

func TestArmTakesEveryKindAndPart(t *testing.T) {
	d := lay(t, 10, create("a"))
	arm(t, d, api.Fault{At: 1 << 32, Kind: 4, Part: math.MaxInt}, api.Fault{At: 1, Kind: 1}, api.Fault{At: 2, Kind: 2}, api.Fault{At: 3, Kind: 4}, api.Fault{At: 4, Kind: 3})
	same(t, "P11.5: each Kind", outcomes(d, 5), "1:20 3:4000 4:22 5:22")
}
