package segment_test

import (
	"bytes"
	"fmt"
	"math"
	"math/rand"
	"runtime"
	"slices"
	"testing"

	"flume/api"
	"flume/disk"
	"flume/segment"
)

func TestRead(t *testing.T) {
	for _, base := range []int64{1, 5, 1 << 40, api.MaxLSN - 2} {
		_, s := laid(t, base, texts("a", "", "bcd")...)
		readAll(t, "three", s, base, texts("a", "", "bcd")...)
		wantNone(t, "far away", s, math.MinInt64, -base, -1, 0, base-1, base+3, math.MaxInt64)
	}
}

// mixed are records of all lengths, so that those that the index has lie near and far.
func mixed(r *rand.Rand, n int) [][]byte {
	var datas [][]byte
	for range n {
		b := make([]byte, r.Intn(1+[]int{0, 3, 40, 1100, 4096}[r.Intn(5)]))
		r.Read(b)
		datas = append(datas, b)
	}
	return datas
}

// rewrite puts other bytes in the place of a file's, beneath the segment.
func rewrite(t *testing.T, d *disk.Disk, b []byte) {
	t.Helper()
	same(t, "Cut", d.Cut(file, 0), api.OK)
	_, err := d.Append(file, b)
	same(t, "Append", err, api.OK)
}

// made gives one segment twice: as it was put, and as it was opened.
func made(t *testing.T, base int64, datas [][]byte) (*disk.Disk, []*segment.Segment) {
	t.Helper()
	d, s := laid(t, base)
	for i, data := range datas {
		lsn, err := s.Put(data)
		same(t, "P13.3: Put", fmt.Sprint(lsn, err), fmt.Sprint(base+int64(i), 0))
	}
	o, _, err := segment.Open(d, file)
	same(t, "P13.2: Open", err, api.OK)
	return d, []*segment.Segment{s, o}
}

func TestReadOfMany(t *testing.T) {
	r := rand.New(rand.NewSource(135))
	for range 10 {
		datas := mixed(r, 200)
		_, both := made(t, 3, datas)
		for _, s := range both {
			readAll(t, "many", s, 3, datas...)
		}
	}
	steps := [][]byte{big(1008), big(1007), big(1), big(1008), nil, big(1007), big(992), nil, big(991), nil, nil, nil, big(2000), nil}
	_, both := made(t, 3, steps)
	for _, s := range both {
		readAll(t, "about the index's step", s, 3, steps...)
	}
	_, both = made(t, 3, make([][]byte, 500))
	for _, s := range both {
		readAll(t, "empty ones", s, 3, make([][]byte, 500)...)
	}
}

// A record in which some bit is turned is none any more; those ahead of it are as they were.
func TestReadOfSpoiltBytes(t *testing.T) {
	datas := texts("a", "", "bcd", "efghij")
	d, both := made(t, 5, datas)
	b := bytesOf(d, file)
	for bit := 32 * 8; bit < len(b)*8; bit++ {
		spoilt := slices.Clone(b)
		spoilt[bit/8] ^= 1 << (bit % 8)
		rewrite(t, d, spoilt)
		which := []int{49, 65, 84, len(b)}
		n := slices.IndexFunc(which, func(end int) bool { return bit/8 < end })
		for _, s := range both {
			for i := range n {
				rec, err := s.Read(5 + int64(i))
				same(t, "P13.5: ahead of a bit that was turned", fmt.Sprintf("%s %d", rec.Data, err), fmt.Sprintf("%s 0", datas[i]))
			}
			wantRead(t, fmt.Sprint("bit ", bit), s, 5+int64(n), api.ErrCorrupt)
		}
	}
	rewrite(t, d, b)
	for _, s := range both {
		readAll(t, "as it was again", s, 5, datas...)
	}
}

// Long files, of which one byte is changed: the record there is told as corrupt, all ahead of it and all behind the next entries are as they were.
func TestReadOfLongSpoiltFiles(t *testing.T) {
	r := rand.New(rand.NewSource(136))
	for range 20 {
		datas := mixed(r, 80)
		d, both := made(t, 1, datas)
		b := bytesOf(d, file)
		n := r.Intn(len(datas))
		from, _ := plainFile(headOf(1), datas[:n]...)
		to, _ := plainFile(headOf(1), datas[:n+1]...)
		b[len(from)+r.Intn(len(to)-len(from))] ^= byte(1 + r.Intn(255))
		rewrite(t, d, b)
		far := n + 1
		for far < len(datas) {
			ahead, _ := plainFile(headOf(1), datas[:far]...)
			if len(ahead) >= len(to)+1024 {
				break
			}
			far++
		}
		for _, s := range both {
			wantRead(t, "a byte was changed", s, 1+int64(n), api.ErrCorrupt)
			for i := range datas {
				if i < n || i >= far {
					rec, err := s.Read(1 + int64(i))
					same(t, "P13.5: far from a byte that was changed", fmt.Sprint(bytes.Equal(rec.Data, datas[i]), err), "true 0")
				}
			}
		}
	}
}

// What is read is what the disk has now.
func TestReadAnew(t *testing.T) {
	d, both := made(t, 5, texts("a", "bc", "d"))
	b, _ := plainFile(headOf(5), texts("x", "yz", "w")...)
	rewrite(t, d, b)
	for _, s := range both {
		readAll(t, "other records of the same lengths", s, 5, texts("x", "yz", "w")...)
	}
	b, _ = plainFile(headOf(5), texts("xy", "z", "w")...)
	rewrite(t, d, b)
	for _, s := range both {
		readAll(t, "other records of other lengths", s, 5, texts("xy", "z", "w")...)
	}
	b, _ = plainFile(headOf(6), texts("x", "yz", "w")...)
	rewrite(t, d, b)
	for _, s := range both {
		wantRead(t, "behind another head", s, 5, api.ErrCorrupt)
	}
	h, seed := plainHead(headOf(5))
	f, _ := plainFrame(seed, 6, []byte("x"))
	rewrite(t, d, slices.Concat(h, f, make([]byte, 99)))
	for _, s := range both {
		wantRead(t, "a frame of another LSN", s, 5, api.ErrCorrupt)
	}
	f, _ = plainFrame(seed, 5, big(100))
	rewrite(t, d, slices.Concat(h, f))
	for _, s := range both {
		wantRead(t, "a frame beyond the segment's bytes", s, 5, api.ErrCorrupt)
	}
	b, _ = plainFile(headOf(5), texts("abcdefghijklmnopqrst")...)
	rewrite(t, d, append(b, make([]byte, 32+17+18+17-len(b))...))
	for _, s := range both {
		rec, err := s.Read(5)
		same(t, "P13.5: fewer records, a long one", fmt.Sprintf("%s %d", rec.Data, err), "abcdefghijklmnopqrst 0")
		wantRead(t, "fewer records", s, 6, api.ErrCorrupt)
		wantRead(t, "fewer records", s, 7, api.ErrCorrupt)
	}
	b, _ = plainFile(headOf(5), big(36))
	rewrite(t, d, b)
	for _, s := range both {
		wantRead(t, "one record in the place of all", s, 6, api.ErrCorrupt)
	}
}

// Of a file that was cut beneath each record is there whose frame is whole; of the others the disk has not so many bytes.
func TestReadOfACutFile(t *testing.T) {
	datas := texts("a", "", "bcd")
	for size := 84; size >= 0; size-- {
		d, both := made(t, 5, datas)
		same(t, "Cut", d.Cut(file, size), api.OK)
		for _, s := range both {
			for i, end := range []int{49, 65, 84} {
				if size < end {
					wantRead(t, fmt.Sprint("cut to ", size), s, 5+int64(i), api.ErrBounds)
					continue
				}
				rec, err := s.Read(5 + int64(i))
				same(t, fmt.Sprint("P13.5: cut to ", size), fmt.Sprintf("%s %d", rec.Data, err), fmt.Sprintf("%s 0", datas[i]))
			}
			wantNone(t, "a cut file", s, 4, 8)
			same(t, "P13.6: Look", s.Look(), plainLook(headOf(5), datas...))
		}
	}
}

func TestReadOfNoFile(t *testing.T) {
	d, both := made(t, 5, texts("a"))
	same(t, "Remove", d.Remove(file), api.OK)
	for _, s := range both {
		wantRead(t, "a file that is gone", s, 5, api.ErrNone)
	}
	d, both = made(t, 5, texts("a"))
	arm(t, d, api.Fault{At: 1, Kind: api.FaultPower})
	d.SyncDir()
	for _, s := range both {
		wantRead(t, "a disk that is down", s, 5, api.ErrDown)
		wantNone(t, "a disk that is down", s, 4, 6)
		same(t, "P13.6: Look", s.Look(), plainLook(headOf(5), texts("a")...))
	}
	d.Crash(api.Fate{})
	for _, s := range both {
		wantRead(t, "what did not last", s, 5, api.ErrBounds)
	}
}

// Reading of a long file asks for few bytes: else as many would be made as it has, each time.
func TestReadOfFewBytes(t *testing.T) {
	datas := make([][]byte, 2000)
	for i := range datas {
		datas[i] = big(i % 900)
	}
	d, s := laid(t, 1, datas...)
	o, _, err := segment.Open(d, file)
	same(t, "P13.2: Open", err, api.OK)
	for _, x := range []*segment.Segment{s, o} {
		const reads = 200
		var was, now runtime.MemStats
		runtime.ReadMemStats(&was)
		for i := range reads {
			x.Read(int64(1 + i*len(datas)/reads))
		}
		runtime.ReadMemStats(&now)
		if n := (now.TotalAlloc - was.TotalAlloc) / reads; n > 1<<16 {
			t.Errorf("P13.5: a Read makes %d bytes of memory, of a file of %d", n, s.Look().Size)
		}
	}
}
