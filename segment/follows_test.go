package segment_test

import (
	"fmt"
	"math/rand"
	"slices"
	"testing"

	"flume/api"
	"flume/disk"
	"flume/segment"
)

// whole tells how many of the records stand whole in the first n bytes of their file.
func whole(base int64, datas [][]byte, n int) int {
	for k := range datas {
		if b, _ := plainFile(headOf(base), datas[:k+1]...); len(b) > n {
			return k
		}
	}
	return len(datas)
}

func TestWhatFollowsOfOpen(t *testing.T) {
	r := rand.New(rand.NewSource(131))
	for range 50 {
		datas := mixed(r, r.Intn(30))
		d, s := laid(t, 9)
		for rest := datas; len(rest) > 0; {
			n := 1 + r.Intn(len(rest))
			s.Put(rest[:n]...)
			rest = rest[n:]
			if r.Intn(2) == 0 {
				same(t, "P13.4: Sync", s.Sync(), api.OK)
			}
		}
		o, found, err := segment.Open(d, file)
		same(t, "what follows: Open", err, api.OK)
		look := plainLook(headOf(9), datas...)
		same(t, "what follows: the scan", found, api.Scan{Count: len(datas), End: look.Size - 32, Next: look.Next, Seed: look.Seed, Why: api.WhyEnd})
		same(t, "P13.6: Look", o.Look(), look)
		same(t, "P13.6: Look", s.Look(), look)
		readAll(t, "opened", o, 9, datas...)
	}
}

// Behind a Crash, whatever is kept of the tail, the records ahead of the last Sync are there, unchanged, and as many of the others as are whole.
func TestWhatFollowsOfACrash(t *testing.T) {
	lists := []struct{ synced, put [][]byte }{
		{nil, texts("a")}, {texts("a"), nil}, {texts("a"), texts("b")}, {texts("a", "bc", ""), texts("", "def", "g")},
		{[][]byte{big(2000), nil}, [][]byte{big(100), nil, big(300)}},
	}
	for _, l := range lists {
		d, s := laid(t, 3, l.synced...)
		if len(l.put) > 0 {
			s.Put(l.put...)
		}
		all := slices.Concat(l.synced, l.put)
		tail := d.Tails(0)[0].N
		lasts := s.Look().Size - tail
		for n := range tail + 1 {
			for _, junk := range []string{"", "j", "junk that is no frame, but longer than the front of one"} {
				c := d.Copy()
				c.Crash(api.Fate{Keeps: []api.Keep{{N: n, Junk: []byte(junk)}}})
				o, found, err := segment.Open(c, file)
				what := fmt.Sprintf("kept %d of %d, junk %q", n, tail, junk)
				same(t, "what follows: "+what, err, api.OK)
				count := whole(3, all, lasts+n)
				same(t, "what follows: how many: "+what, found.Count, count)
				same(t, "what follows: those of the last Sync: "+what, count >= len(l.synced), true)
				readAll(t, what, o, 3, all[:count]...)
				look := plainLook(headOf(3), all[:count]...)
				size, _ := c.Size(file)
				look.Broken = size > look.Size
				same(t, "P13.6: Look: "+what, o.Look(), look)
				same(t, "P13.4: Trim: "+what, o.Trim(), api.OK)
				lsn, err := o.Put([]byte("on"))
				same(t, "P13.3: goes on: "+what, fmt.Sprint(lsn, err), fmt.Sprint(3+count, 0))
			}
		}
	}
}

// A Crash at any moment behind Puts, Syncs and faults: what was put ahead of the last Sync that was OK is there.
func TestWhatFollowsOfDrawnCrashes(t *testing.T) {
	r := rand.New(rand.NewSource(132))
	for range 300 {
		d, s := laid(t, 3)
		var datas [][]byte
		synced := 0
		for range r.Intn(12) {
			if r.Intn(8) == 0 {
				arm(t, d, api.Fault{At: int64(1 + r.Intn(2)), Kind: 1 + r.Intn(4), Part: r.Intn(60)})
			}
			if r.Intn(3) == 0 {
				if ended(s.Sync) == "0" {
					synced = len(datas)
				}
				continue
			}
			batch := mixed(r, 1+r.Intn(3))
			// What is not OK may stand there all the same.
			ended(func() api.Errno { _, err := s.Put(batch...); return err })
			if !s.Look().Broken {
				datas = append(datas, batch...)
			}
		}
		same(t, "P13.6: Next", s.Look().Next, int64(3+len(datas)))
		for range 10 {
			c := d.Copy()
			c.Crash(api.Fate{Keeps: []api.Keep{{N: r.Intn(1 + c.Tails(0)[0].N), Junk: make([]byte, r.Intn(30))}}})
			o, found, err := segment.Open(c, file)
			same(t, "what follows: Open", err, api.OK)
			if found.Count < synced {
				t.Fatalf("what follows: %d records, of %d that were synced", found.Count, synced)
			}
			for i, data := range datas[:min(found.Count, len(datas))] {
				rec, err := o.Read(3 + int64(i))
				same(t, "what follows: unchanged", fmt.Sprintf("%x %d", rec.Data, err), fmt.Sprintf("%x 0", data))
			}
		}
	}
}

// ---- a segment by the words of the chapter, on a disk of its own ----

type plain struct {
	d         *disk.Disk
	name      string
	h         api.Head
	datas     [][]byte
	condition string // "", "open": broken since Open, "failed"
}

func (p *plain) look() api.SegLook {
	l := under(p.name, plainLook(p.h, p.datas...))
	l.Broken = p.condition != ""
	return l
}

// operation does one on the disk; what is not OK breaks the segment, if it is not spared.
func (p *plain) operation(spared bool, do func() api.Errno) string {
	how := ended(do)
	if how != "0" && !spared {
		p.condition = "failed"
	}
	return how
}

func (p *plain) put(datas [][]byte) (int64, string) {
	if p.condition != "" {
		return 0, fmt.Sprint(api.ErrFailed)
	}
	if len(datas) == 0 {
		return 0, fmt.Sprint(api.ErrArg)
	}
	if slices.ContainsFunc(datas, func(b []byte) bool { return len(b) > 4096 }) {
		return 0, fmt.Sprint(api.ErrLong)
	}
	all := slices.Concat(p.datas, datas)
	was := p.look()
	b, _ := plainFile(p.h, all...)
	how := p.operation(false, func() api.Errno { _, err := p.d.Append(p.name, b[was.Size:]); return err })
	if how != "0" {
		return 0, how
	}
	p.datas = all
	return was.Next, how
}

func (p *plain) sync() string {
	if p.condition != "" {
		return fmt.Sprint(api.ErrFailed)
	}
	return p.operation(false, func() api.Errno { return p.d.Sync(p.name) })
}

func (p *plain) trim() string {
	switch p.condition {
	case "":
		return "0"
	case "failed":
		return fmt.Sprint(api.ErrFailed)
	}
	how := p.operation(true, func() api.Errno { return p.d.Cut(p.name, p.look().Size) })
	if how == "0" {
		p.condition = ""
	}
	return how
}

// reopen takes the records of the file that is there.
func (p *plain) reopen() {
	b := bytesOf(p.d, p.name)
	p.datas = plainRecords(b, p.h)
	p.condition = ""
	if p.look().Size < len(b) {
		p.condition = "open"
	}
}

// pair is a segment and a plain one, each on a disk of its own, to which the same is done.
type pair struct {
	s *segment.Segment
	d *disk.Disk
	p *plain
}

func (x *pair) step(t *testing.T, r *rand.Rand) {
	t.Helper()
	switch n := r.Intn(30); {
	case n < 12:
		batch := mixed(r, r.Intn(4))
		if r.Intn(20) == 0 {
			batch = append(batch, big(4097))
		}
		var lsn int64
		how := ended(func() (err api.Errno) { lsn, err = x.s.Put(batch...); return })
		wantLSN, want := x.p.put(batch)
		same(t, "P13.3: Put", fmt.Sprint(lsn, how), fmt.Sprint(wantLSN, want))
	case n < 17:
		same(t, "P13.4: Sync", ended(x.s.Sync), x.p.sync())
	case n < 20:
		same(t, "P13.4: Trim", ended(x.s.Trim), x.p.trim())
	case n < 23:
		f := api.Fault{At: int64(1 + r.Intn(4)), Kind: 1 + r.Intn(4), Part: r.Intn(100)}
		arm(t, x.d, f)
		arm(t, x.p.d, f)
	case n < 25:
		x.move(t, r)
	default:
		x.crash(t, r)
	}
}

func (x *pair) move(t *testing.T, r *rand.Rand) {
	t.Helper()
	to := string(rune('a' + r.Intn(3)))
	how := ended(func() api.Errno { return x.d.Rename(x.p.name, to) })
	same(t, "Rename", how, ended(func() api.Errno { return x.p.d.Rename(x.p.name, to) }))
	if how == "0" {
		x.s.Moved(to)
		x.p.name = to
	}
}

// crash loses the power, and opens the file anew, under whichever name it is there.
func (x *pair) crash(t *testing.T, r *rand.Rand) {
	t.Helper()
	if r.Intn(3) > 0 {
		f := api.Fate{Dir: r.Intn(4), Keeps: []api.Keep{{N: r.Intn(3000)}}}
		x.d.Crash(f)
		x.p.d.Crash(f)
		x.p.name = x.p.d.Files()[0].Name
	}
	if !x.d.Up() {
		wantOpen(t, "down", x.d, x.p.name, api.ErrDown)
		x.d.Crash(api.Fate{})
		x.p.d.Crash(api.Fate{})
		x.p.name = x.p.d.Files()[0].Name
	}
	var found api.Scan
	var err api.Errno
	x.s, found, err = segment.Open(x.d, x.p.name)
	same(t, "P13.2: Open", err, api.OK)
	x.p.reopen()
	l := x.p.look()
	found.Why = 0
	same(t, "P13.2: the scan", found, api.Scan{Count: len(x.p.datas), End: l.Size - 32, Next: l.Next, Seed: l.Seed})
}

func (x *pair) alike(t *testing.T, r *rand.Rand) {
	t.Helper()
	same(t, "P13.6: Look", x.s.Look(), x.p.look())
	same(t, "the disk", x.d.Count(), x.p.d.Count())
	for range 3 {
		i := r.Intn(len(x.p.datas)+2) - 1
		lsn := x.p.h.Base + int64(i)
		switch {
		case i < 0 || i == len(x.p.datas):
			wantNone(t, "a walk", x.s, lsn)
		case !x.d.Up():
			wantRead(t, "a walk, down", x.s, lsn, api.ErrDown)
		default:
			rec, err := x.s.Read(lsn)
			same(t, "P13.5: a walk", fmt.Sprintf("%d %x %d", rec.LSN, rec.Data, err), fmt.Sprintf("%d %x 0", lsn, x.p.datas[i]))
		}
	}
}

func TestWalks(t *testing.T) {
	r := rand.New(rand.NewSource(133))
	for range 120 {
		h := api.Head{Num: 1 + r.Int63(), Base: 1 + r.Int63n(1<<62), Seed: r.Uint32()}
		most := []int{400, 5000, 1 << 20}[r.Intn(3)]
		x := pair{d: disk.New(most), p: &plain{d: disk.New(most), name: "a", h: h}}
		var err api.Errno
		x.s, err = segment.Create(x.d, "a", h)
		same(t, "P13.1: Create", err, api.OK)
		b, _ := plainHead(h)
		x.p.d.Create("a")
		x.p.d.Append("a", b)
		x.p.d.Sync("a")
		x.d.SyncDir()
		x.p.d.SyncDir()
		for range 50 {
			x.step(t, r)
			x.alike(t, r)
		}
		same(t, "the disk", tell(x.d), tell(x.p.d))
	}
}
