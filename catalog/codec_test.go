package catalog_test

import (
	"bytes"
	"encoding/binary"
	"hash/crc32"
	"math"
	"math/big"
	"math/rand"
	"slices"
	"testing"

	"flume/api"
	"flume/catalog"
)

// summed lays the sum of b behind it, in new memory.
func summed(b []byte) []byte {
	sum := crc32.Checksum(b, crc32.MakeTable(crc32.Castagnoli))
	return binary.LittleEndian.AppendUint32(slices.Clone(b), sum)
}

// marked is what the mark, then b and the sum of all come to.
func marked(b ...byte) []byte {
	return summed(append([]byte("FCAT"), b...))
}

// numbers are varints, one behind the other.
func numbers(list ...uint64) []byte {
	var b []byte
	for _, n := range list {
		b = binary.AppendUvarint(b, n)
	}
	return b
}

// plainBody is what stands between the mark and the sum.
func plainBody(c api.Catalog) []byte {
	b := numbers(uint64(c.Gen), uint64(c.First), uint64(len(c.Segs)))
	for _, s := range c.Segs {
		b = append(b, numbers(uint64(s.Num), uint64(s.Base))...)
		b = binary.LittleEndian.AppendUint32(b, s.Seed)
		b = append(b, numbers(uint64(s.End), uint64(s.Size))...)
	}
	return b
}

// plainVarint takes a varint from b's front, by the words of P1.2; one above 2^63 - 1 is not in its form here.
func plainVarint(b []byte) (n int64, size int, err api.Errno) {
	sum := new(big.Int)
	for i := range 10 {
		if i == len(b) {
			return 0, 0, api.ErrShort
		}
		group := big.NewInt(int64(b[i] & 0x7f))
		sum.Or(sum, group.Lsh(group, uint(7*i)))
		if b[i] < 0x80 {
			if i > 0 && b[i] == 0 || !sum.IsInt64() {
				return 0, 0, api.ErrForm
			}
			return sum.Int64(), i + 1, api.OK
		}
	}
	return 0, 0, api.ErrForm
}

// plainRead reads a catalog by the words of P10.2.
func plainRead(b []byte) (c api.Catalog, err api.Errno) {
	if len(b) < 8 {
		return api.Catalog{}, api.ErrShort
	}
	if !bytes.HasPrefix(b, []byte("FCAT")) {
		return api.Catalog{}, api.ErrForm
	}
	if !bytes.Equal(b, summed(b[:len(b)-4])) {
		return api.Catalog{}, api.ErrSum
	}
	b = b[4 : len(b)-4]
	next := func() (n int64) {
		if err == api.OK {
			var size int
			n, size, err = plainVarint(b)
			b = b[size:]
		}
		return n
	}
	c.Gen = next()
	c.First = next()
	count := next()
	if err == api.OK && count > 64 {
		err = api.ErrForm
	}
	for i := int64(0); i < count && err == api.OK; i++ {
		s := api.Seg{}
		s.Num = next()
		s.Base = next()
		if err == api.OK && len(b) < 4 {
			err = api.ErrShort
		}
		if err == api.OK {
			s.Seed = binary.LittleEndian.Uint32(b)
			b = b[4:]
		}
		s.End = next()
		s.Size = int(next())
		c.Segs = append(c.Segs, s)
	}
	if err == api.OK && (len(b) > 0 || !plainMay(c)) {
		err = api.ErrForm
	}
	if err != api.OK {
		return api.Catalog{}, err
	}
	return c, api.OK
}

func wantWrite(t *testing.T, what string, c api.Catalog, want []byte, wantErr api.Errno) {
	t.Helper()
	if got, err := catalog.Write(c); !bytes.Equal(got, want) || err != wantErr {
		t.Errorf("P10.1: %s: Write(%v): %x, %v, want %x, %v", what, c, got, err, want, wantErr)
	}
}

func wantRead(t *testing.T, what string, b []byte, want api.Catalog, wantErr api.Errno) {
	t.Helper()
	if got, err := catalog.Read(b); !same(got, want) || err != wantErr {
		t.Errorf("P10.2: %s: Read(%x): %v, %v, want %v, %v", what, b, got, err, want, wantErr)
	}
}

// checkWrite holds Write against the plain bytes, and reads them again. What may not be is written all the same, and read.
func checkWrite(t *testing.T, what string, c api.Catalog) {
	t.Helper()
	b := marked(plainBody(c)...)
	if !plainMay(c) {
		wantWrite(t, what, c, nil, api.ErrForm)
		wantRead(t, what, b, api.Catalog{}, api.ErrForm)
		return
	}
	wantWrite(t, what, c, b, api.OK)
	wantRead(t, what, b, c, api.OK)
}

// checkRead holds Read of b against the plain one; what it takes is written again.
func checkRead(t *testing.T, what string, b []byte) {
	t.Helper()
	want, err := plainRead(b)
	wantRead(t, what, b, want, err)
	c, err := catalog.Read(b)
	if err != api.OK {
		return
	}
	if again, err := catalog.Write(c); !bytes.Equal(again, b) || err != api.OK {
		t.Errorf("what follows: %s: Write(Read(%x)): %x, %v", what, b, again, err)
	}
}

func TestBytesOfOne(t *testing.T) {
	wantWrite(t, "one", one(), marked(1, 1, 1, 1, 1, 7, 0, 0, 0, 0, 0), api.OK)
	two := api.Catalog{Gen: 2, First: 1, Segs: []api.Seg{{Num: 1, Base: 1, Seed: 7, End: 11, Size: 300}, {Num: 2, Base: 11, Seed: 0x0a0b0c0d}}}
	b := marked(2, 1, 2, 1, 1, 7, 0, 0, 0, 11, 0xac, 2, 2, 11, 0x0d, 0x0c, 0x0b, 0x0a, 0, 0)
	wantWrite(t, "two", two, b, api.OK)
	wantRead(t, "two", b, two, api.OK)
}

// TestReadReasons has each reason, and which one comes first where two hold.
func TestReadReasons(t *testing.T) {
	ten := bytes.Repeat([]byte{0xff}, 10)
	whole := []byte{1, 1, 1, 1, 1, 7, 0, 0, 0, 0, 0}
	long := numbers(1 << 63)
	for _, x := range []struct {
		what string
		b    []byte
		want api.Errno
	}{
		{"no bytes", nil, api.ErrShort},
		{"no bytes", []byte{}, api.ErrShort},
		{"the mark alone", []byte("FCAT"), api.ErrShort},
		{"seven bytes", []byte("FCAT123"), api.ErrShort},
		{"seven bytes, another mark", []byte("FCAU123"), api.ErrShort},
		{"another mark, another sum", []byte("FCAU1234"), api.ErrForm},
		{"another mark, its sum", summed([]byte("FCAU")), api.ErrForm},
		{"another mark of a whole one", summed(append([]byte("fCAT"), whole...)), api.ErrForm},
		{"another sum", []byte("FCAT1234"), api.ErrSum},
		{"another sum, bytes that end within", append(marked(1, 1), 0), api.ErrSum},
		{"another sum, a Gen not in its form", append([]byte("FCAT"), 0x80, 0, 0, 0, 0, 0), api.ErrSum},
		{"nothing between", marked(), api.ErrShort},
		{"a Gen that ends within", marked(0x80), api.ErrShort},
		{"no First", marked(1), api.ErrShort},
		{"no count", marked(1, 1), api.ErrShort},
		{"a count that ends within", marked(1, 1, 0x80), api.ErrShort},
		{"no Num", marked(1, 1, 1), api.ErrShort},
		{"no Base", marked(1, 1, 1, 1), api.ErrShort},
		{"no Seed", marked(1, 1, 1, 1, 1), api.ErrShort},
		{"three bytes of a Seed", marked(1, 1, 1, 1, 1, 7, 0, 0), api.ErrShort},
		{"no End", marked(1, 1, 1, 1, 1, 7, 0, 0, 0), api.ErrShort},
		{"no Size", marked(1, 1, 1, 1, 1, 7, 0, 0, 0, 0), api.ErrShort},
		{"a Size that ends within", marked(1, 1, 1, 1, 1, 7, 0, 0, 0, 0, 0x80), api.ErrShort},
		{"no second segment", marked(1, 1, 2, 1, 1, 7, 0, 0, 0, 11, 40), api.ErrShort},
		{"no segment of 64", marked(1, 1, 64), api.ErrShort},
		{"a Gen not in its form", marked(0x81, 0), api.ErrForm},
		{"a Gen of ten bytes", marked(ten...), api.ErrForm},
		{"a Gen of 2^63, and no more", marked(long...), api.ErrForm},
		{"a Gen of 2^64 - 1", marked(numbers(math.MaxUint64)...), api.ErrForm},
		{"a Gen of 2^63 - 1, and no more", marked(numbers(most)...), api.ErrShort},
		{"a First not in its form", marked(1, 0x81, 0), api.ErrForm},
		{"a First of 2^63", marked(append([]byte{1}, long...)...), api.ErrForm},
		{"a count not in its form", marked(1, 1, 0x81, 0), api.ErrForm},
		{"a count of 65", marked(1, 1, 65), api.ErrForm},
		{"a count of 2^63", marked(append([]byte{1, 1}, long...)...), api.ErrForm},
		{"a count of 2^64 - 1", marked(append([]byte{1, 1}, numbers(math.MaxUint64)...)...), api.ErrForm},
		{"a Num not in its form", marked(1, 1, 1, 0x81, 0), api.ErrForm},
		{"a Num of 2^63", marked(append([]byte{1, 1, 1}, long...)...), api.ErrForm},
		{"a Base not in its form", marked(1, 1, 1, 1, 0x81, 0), api.ErrForm},
		{"a Base of 2^63", marked(append([]byte{1, 1, 1, 1}, long...)...), api.ErrForm},
		{"an End not in its form", marked(1, 1, 1, 1, 1, 7, 0, 0, 0, 0x80, 0), api.ErrForm},
		{"an End of 2^63", marked(append([]byte{1, 1, 2, 1, 1, 7, 0, 0, 0}, long...)...), api.ErrForm},
		{"a Size not in its form", marked(1, 1, 1, 1, 1, 7, 0, 0, 0, 0, 0x80, 0), api.ErrForm},
		{"a Size of 2^63", marked(append([]byte{1, 1, 2, 1, 1, 7, 0, 0, 0, 11}, long...)...), api.ErrForm},
		{"a Size of 2^63 - 1, and no more", marked(append([]byte{1, 1, 2, 1, 1, 7, 0, 0, 0, 11}, numbers(most)...)...), api.ErrShort},
		{"no segment", marked(1, 1, 0), api.ErrForm},
		{"no segment, bytes left", marked(1, 1, 0, 0), api.ErrForm},
		{"a byte left", marked(append(slices.Clone(whole), 0)...), api.ErrForm},
		{"a byte left that is a varint's front", marked(append(slices.Clone(whole), 0x80)...), api.ErrForm},
		{"the Gen 0, bytes that end within", marked(0, 1, 1), api.ErrShort},
		{"the Gen 0", marked(append([]byte{0}, whole[1:]...)...), api.ErrForm},
		{"the First 0, bytes that end within", marked(1, 0, 1, 1), api.ErrShort},
		{"a Num 0, bytes that end within", marked(1, 1, 1, 0, 1), api.ErrShort},
		{"an open one with an End, bytes that end within", marked(1, 1, 1, 1, 1, 7, 0, 0, 0, 9), api.ErrShort},
		{"a Size of 1, bytes that end within", marked(1, 1, 2, 1, 1, 7, 0, 0, 0, 11, 1, 2, 11), api.ErrShort},
		{"a whole one", marked(whole...), api.OK},
	} {
		want, err := plainRead(x.b)
		if err != x.want {
			t.Errorf("%s: the plain Read answers %v, want %v", x.what, err, x.want)
		}
		wantRead(t, x.what, x.b, want, x.want)
		checkRead(t, x.what, x.b)
	}
}

// TestReadOfMost has 64 segments, and 65, whole.
func TestReadOfMost(t *testing.T) {
	wantRead(t, "64", marked(plainBody(row(64))...), row(64), api.OK)
	wantRead(t, "65", marked(plainBody(row(65))...), api.Catalog{}, api.ErrForm)
}

// TestReadOfWhatMayNotBe writes each catalog that may not be, where its numbers have a form at all.
func TestReadOfWhatMayNotBe(t *testing.T) {
	for _, x := range spoilts() {
		wantRead(t, x.why, marked(plainBody(x.c)...), api.Catalog{}, api.ErrForm)
	}
}

// TestReadOfParts cuts bytes off at every place, and lays a new sum behind what is left.
func TestReadOfParts(t *testing.T) {
	b := marked(plainBody(three())...)
	for n := range b {
		checkRead(t, "cut off", b[:n])
		checkRead(t, "cut off, summed anew", summed(b[:n]))
		if n >= 4 && n < len(b)-4 {
			wantRead(t, "cut off, summed anew", summed(b[:n]), api.Catalog{}, api.ErrShort)
		}
	}
	body := plainBody(three())
	for _, more := range [][]byte{{0}, {1}, {0x80}, {0, 0}, body} {
		wantRead(t, "left over", marked(slices.Concat(body, more)...), api.Catalog{}, api.ErrForm)
		wantRead(t, "left over behind the sum", slices.Concat(b, more), api.Catalog{}, api.ErrSum)
	}
}

// TestReadOfTurned turns each bit, and each byte to some others, with the old sum and with a new one.
func TestReadOfTurned(t *testing.T) {
	for _, c := range []api.Catalog{one(), three()} {
		b := marked(plainBody(c)...)
		for i := range b {
			for _, x := range []byte{1, 2, 4, 8, 16, 32, 64, 128, 255, b[i], b[i] ^ 0x80} {
				turned := slices.Clone(b)
				turned[i] ^= x
				checkRead(t, "turned", turned)
				if x != 0 && i >= 4 {
					wantRead(t, "turned", turned, api.Catalog{}, api.ErrSum)
				}
				checkRead(t, "turned, summed anew", summed(turned[:len(b)-4]))
			}
		}
	}
}

// TestReadOfDrawn has bytes at random, with the mark and the sum right, and catalogs with a part torn out.
func TestReadOfDrawn(t *testing.T) {
	r := rand.New(rand.NewSource(104))
	for n := range 3000 {
		b := make([]byte, r.Intn(40))
		for i := range b {
			b[i] = []byte{0, 1, 1, 2, 11, 64, 65, 0x80, 0x81, 0xff, byte(r.Intn(256))}[r.Intn(11)]
		}
		checkRead(t, "drawn", marked(b...))
		checkRead(t, "drawn, no sum", b)
		if n%10 == 0 {
			b = plainBody(drawn(r, 1+r.Intn(6)))
			i := r.Intn(len(b))
			j := i + r.Intn(len(b)-i)
			checkRead(t, "torn", marked(slices.Concat(b[:i], b[j:])...))
			checkRead(t, "twice", marked(slices.Concat(b[:j], b[i:])...))
		}
	}
}

// TestBytesAreNewMemory: neither what is handed in nor what another call answered is shared, spare room too.
func TestBytesAreNewMemory(t *testing.T) {
	c, room := roomy()
	want := marked(plainBody(c)...)
	first, _ := catalog.Write(c)
	second, _ := catalog.Write(c)
	for i := range second[:cap(second)] {
		second[:cap(second)][i] = 9
	}
	wipe(room)
	if !bytes.Equal(first, want) {
		t.Errorf("P10.6: Write shares memory: %x, want %x", first, want)
	}
	wantWrite(t, "again", three(), want, api.OK)

	b := append(slices.Clone(want), 1, 2, 3)
	was := slices.Clone(b)
	one, _ := catalog.Read(b[:len(want)])
	two, _ := catalog.Read(b[:len(want)])
	if !bytes.Equal(b, was) {
		t.Errorf("P10.6: Read changed what was handed in: %x, was %x", b, was)
	}
	wipe(two.Segs)
	clear(b)
	if !same(one, three()) {
		t.Errorf("P10.6: Read shares memory: %v", one)
	}
	wantRead(t, "again", want, three(), api.OK)
}
