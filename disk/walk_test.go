package disk_test

import (
	"math/rand"
	"strings"
	"testing"

	"flume/api"
	"flume/disk"
)

// Walks: whatever is drawn is done to a disk and to a plain one, and all that can be asked of the two is held against each other.

type pair struct {
	d *disk.Disk
	p *plainDisk
}

func drawName(r *rand.Rand) string {
	if r.Intn(20) == 0 {
		return []string{"", "-", "A", "a-", "a b", strings.Repeat("a", 65)}[r.Intn(6)]
	}
	return string(rune('a' + r.Intn(4)))
}

func drawText(r *rand.Rand, most int) string {
	b := make([]byte, r.Intn(most))
	for i := range b {
		b[i] = byte('a' + r.Intn(26))
	}
	return string(b)
}

func drawCall(r *rand.Rand) call {
	op := []int{opCreate, opCreate, opAppend, opAppend, opAppend, opSync, opSync, opCut, opRename, opRemove, opSyncDir}[r.Intn(11)]
	c := call{op: op, name: drawName(r)}
	switch op {
	case opAppend:
		c.data = drawText(r, 12)
	case opCut:
		c.size = r.Intn(24) - 2
	case opRename:
		c.to = drawName(r)
	case opSyncDir:
		c.name = ""
	}
	return c
}

func drawFaults(r *rand.Rand) (fs []api.Fault) {
	for _, at := range r.Perm(12)[:r.Intn(6)] {
		fs = append(fs, api.Fault{At: int64(at + 1), Kind: 1 + r.Intn(4), Part: r.Intn(8)})
	}
	return
}

func drawFate(r *rand.Rand, pending int) api.Fate {
	f := api.Fate{Dir: r.Intn(pending+3) - 1}
	for range r.Intn(6) {
		f.Keeps = append(f.Keeps, api.Keep{N: r.Intn(14) - 2, Junk: []byte(drawText(r, 8))})
	}
	return f
}

func (x pair) alike(t *testing.T, what any) {
	t.Helper()
	if got, want := tell(x.d), x.p.tell(); got != want {
		t.Fatalf("behind %+v:\n%s\nwant:\n%s", what, got, want)
	}
}

// readsAlike holds Size and Read of each file, and of names of none, against the plain disk.
func (x pair) readsAlike(t *testing.T) {
	t.Helper()
	for _, s := range []string{"a", "b", "c", "d", "e", "-"} {
		wantErr, want := api.OK, []byte(nil)
		switch f := x.p.now()[s]; {
		case x.p.down:
			wantErr = api.ErrDown
		case s == "-":
			wantErr = api.ErrName
		case f == nil:
			wantErr = api.ErrNone
		default:
			want = f.reads()
		}
		if n, err := x.d.Size(s); n != len(want) || err != wantErr {
			t.Fatalf("P11.4: Size(%q): %d, %d, want %d, %d", s, n, err, len(want), wantErr)
		}
		if b, err := x.d.Read(s, 0, len(want)); string(b) != string(want) || err != wantErr {
			t.Fatalf("P11.4: Read(%q): %q, %d, want %q, %d", s, b, err, want, wantErr)
		}
	}
}

func (x pair) step(t *testing.T, r *rand.Rand) {
	t.Helper()
	switch n := r.Intn(40); {
	case n == 0 || x.p.down && n < 20:
		f := drawFate(r, x.d.Pending())
		x.d.Crash(f)
		x.p.crash(f)
		x.alike(t, f)
	case n < 4:
		fs := drawFaults(r)
		if err := x.d.Arm(fs...); err != api.OK {
			t.Fatalf("P11.5: Arm(%v): %d", fs, err)
		}
		x.p.arm(fs)
		x.alike(t, fs)
	default:
		c := drawCall(r)
		if got, want := c.on(x.d), x.p.do(c); got != want {
			t.Fatalf("%+v: %+v, want %+v", c, got, want)
		}
		x.alike(t, c)
	}
}

func TestWalks(t *testing.T) {
	r := rand.New(rand.NewSource(111))
	for range 800 {
		most := []int{0, 5, 20, 40, 1000}[r.Intn(5)]
		x := pair{disk.New(most), newPlain(most)}
		x.alike(t, "New")
		for range 60 {
			x.step(t, r)
		}
		x.readsAlike(t)
	}
}

// A copy goes its own way, and the disk that it was made of goes its own.
func TestWalksOfCopies(t *testing.T) {
	r := rand.New(rand.NewSource(119))
	for range 100 {
		pairs := []pair{{disk.New(30), newPlain(30)}}
		for range 150 {
			x := pairs[r.Intn(len(pairs))]
			if r.Intn(20) == 0 && len(pairs) < 6 {
				pairs = append(pairs, pair{x.d.Copy(), x.p.copy()})
			}
			x.step(t, r)
			for _, y := range pairs {
				y.alike(t, "a step of one of several copies")
			}
		}
	}
}
