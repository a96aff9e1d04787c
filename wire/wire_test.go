package wire_test

import (
	"bytes"
	"encoding/binary"
	"math"
	"slices"
	"testing"

	"flume/api"
	"flume/wire"
)

// edges are the numbers around each power of two, where a form grows by a bit, a group or a byte.
func edges() []uint64 {
	ns := []uint64{300, math.MaxUint64}
	for k := range 64 {
		p := uint64(1) << k
		ns = append(ns, p-1, p, p+1)
	}
	return ns
}

// someBytes are all strings of up to four bytes out of those that a varint's form tells apart, alone and behind eight bytes with the top bit, where a number's last groups stand.
func someBytes() [][]byte {
	level := [][]byte{{}}
	all := slices.Clone(level)
	for range 4 {
		var next [][]byte
		for _, b := range level {
			for _, c := range []byte{0, 1, 2, 0x7f, 0x80, 0x81, 0xff} {
				next = append(next, append(slices.Clone(b), c))
			}
		}
		all = append(all, next...)
		level = next
	}
	for _, b := range slices.Clone(all) {
		all = append(all, slices.Concat(bytes.Repeat([]byte{0x80}, 8), b), slices.Concat(bytes.Repeat([]byte{0xff}, 8), b))
	}
	return all
}

func TestVarintForm(t *testing.T) {
	for _, c := range []struct {
		n    uint64
		want []byte
	}{
		{0, []byte{0}},
		{1, []byte{1}},
		{127, []byte{0x7f}},
		{128, []byte{0x80, 1}},
		{300, []byte{0xac, 2}},
		{1<<14 - 1, []byte{0xff, 0x7f}},
		{1 << 14, []byte{0x80, 0x80, 1}},
		{1<<63 - 1, append(bytes.Repeat([]byte{0xff}, 8), 0x7f)},
		{1 << 63, append(bytes.Repeat([]byte{0x80}, 9), 1)},
		{1<<64 - 1, append(bytes.Repeat([]byte{0xff}, 9), 1)},
	} {
		if b := wire.Varint(c.n); !bytes.Equal(b, c.want) {
			t.Errorf("P1.1: Varint(%d) is %x, want %x", c.n, b, c.want)
		}
	}
	for _, n := range edges() {
		want := binary.AppendUvarint(nil, n)
		if b := wire.Varint(n); !bytes.Equal(b, want) {
			t.Errorf("P1.1: Varint(%d) is %x, want %x", n, b, want)
		}
	}
}

func TestZigAndZag(t *testing.T) {
	for _, c := range []struct {
		n int64
		u uint64
	}{
		{0, 0}, {-1, 1}, {1, 2}, {-2, 3}, {2, 4},
		{math.MaxInt64, math.MaxUint64 - 1}, {math.MinInt64, math.MaxUint64},
		{math.MinInt64 + 1, math.MaxUint64 - 2}, {-1 << 62, 1<<63 - 1}, {1 << 62, 1 << 63},
	} {
		if u := wire.Zig(c.n); u != c.u {
			t.Errorf("P1.1: Zig(%d) is %d, want %d", c.n, u, c.u)
		}
		if n := wire.Zag(c.u); n != c.n {
			t.Errorf("P1.1: Zag(%d) is %d, want %d", c.u, n, c.n)
		}
	}
	for _, u := range edges() {
		if back := wire.Zig(wire.Zag(u)); back != u {
			t.Errorf("P1.1: Zig(Zag(%d)) is %d", u, back)
		}
		for _, n := range []int64{int64(u), -int64(u)} {
			if back := wire.Zag(wire.Zig(n)); back != n {
				t.Errorf("P1.1: Zag(Zig(%d)) is %d", n, back)
			}
		}
	}
}

func TestFixedForms(t *testing.T) {
	if b := wire.Fixed32(0x01020304); !bytes.Equal(b, []byte{4, 3, 2, 1}) {
		t.Errorf("P1.1: Fixed32: %x", b)
	}
	if b := wire.Fixed64(0x0102030405060708); !bytes.Equal(b, []byte{8, 7, 6, 5, 4, 3, 2, 1}) {
		t.Errorf("P1.1: Fixed64: %x", b)
	}
	for _, n := range edges() {
		if b := wire.Fixed32(uint32(n)); !bytes.Equal(b, binary.LittleEndian.AppendUint32(nil, uint32(n))) {
			t.Errorf("P1.1: Fixed32(%d) is %x", uint32(n), b)
		}
		if b := wire.Fixed64(n); !bytes.Equal(b, binary.LittleEndian.AppendUint64(nil, n)) {
			t.Errorf("P1.1: Fixed64(%d) is %x", n, b)
		}
	}
}

func TestStringForm(t *testing.T) {
	for _, length := range []int{0, 1, 2, 127, 128, 300, 1 << 14, 1 << 16} {
		b := bytes.Repeat([]byte{'x', 0, 0xff}, length)[:length]
		want := append(binary.AppendUvarint(nil, uint64(length)), b...)
		if s := wire.String(b); !bytes.Equal(s, want) {
			t.Errorf("P1.1: String of %d bytes: %d bytes, want %d", length, len(s), len(want))
		}
	}
	if s := wire.String(nil); !bytes.Equal(s, []byte{0}) {
		t.Errorf("P1.1: String of nil: %x", s)
	}
	b := []byte("abcd")
	s := wire.String(b[:2])
	s = append(s, 'z', 'z')
	s[1] = 'z'
	if string(b) != "abcd" {
		t.Errorf("P1.5: whoever writes into an answer changed the argument: %q", b)
	}
}

func TestReadVarintBack(t *testing.T) {
	for _, n := range edges() {
		form := wire.Varint(n)
		for _, behind := range [][]byte{nil, {0}, {1}, {0x80}, {0xff, 0xff}} {
			got, size, err := wire.ReadVarint(slices.Concat(form, behind))
			if got != n || size != len(form) || err != api.OK {
				t.Errorf("P1.2: ReadVarint(%x, then %x): %d, %d, %d, want %d", form, behind, got, size, err, n)
			}
		}
		for short := range form {
			refuseVarint(t, form[:short], api.ErrShort)
		}
	}
}

func refuseVarint(t *testing.T, b []byte, want api.Errno) {
	t.Helper()
	if n, size, err := wire.ReadVarint(b); n != 0 || size != 0 || err != want {
		t.Errorf("P1.2: ReadVarint(%x): %d, %d, %d, want 0, 0, %d", b, n, size, err, want)
	}
}

func TestReadVarintRefused(t *testing.T) {
	refuseVarint(t, nil, api.ErrShort)
	refuseVarint(t, []byte{}, api.ErrShort)
	for _, c := range []byte{0x80, 0x81, 0xff} {
		for n := 1; n < 10; n++ {
			front := bytes.Repeat([]byte{c}, n)
			refuseVarint(t, front, api.ErrShort)
			refuseVarint(t, append(front, 0), api.ErrForm)
			refuseVarint(t, append(front, 0, 1), api.ErrForm)
		}
		for _, tenth := range []byte{0, 2, 3, 0x7f, 0x80, 0x81, 0xff} {
			b := append(bytes.Repeat([]byte{c}, 9), tenth)
			refuseVarint(t, b, api.ErrForm)
			refuseVarint(t, append(b, 1), api.ErrForm)
			refuseVarint(t, append(b, 0), api.ErrForm)
		}
	}
}

func TestReadVarintOfAnyBytes(t *testing.T) {
	forms := map[uint64]string{}
	for _, b := range someBytes() {
		n, size, err := wire.ReadVarint(b)
		if err != api.OK {
			continue
		}
		form := string(b[:size])
		if string(wire.Varint(n)) != form {
			t.Fatalf("what follows: %x is read as %d, which is written %x", form, n, wire.Varint(n))
		}
		if old, ok := forms[n]; ok && old != form {
			t.Fatalf("what follows: %d has the forms %x and %x", n, old, form)
		}
		forms[n] = form
	}
	if len(forms) < 100 {
		t.Errorf("only %d numbers were read", len(forms))
	}
}

func TestReadString(t *testing.T) {
	for _, c := range []struct {
		b    []byte
		most int
		want string
		size int
	}{
		{[]byte{2, 'a', 'b', 'c'}, 9, "ab", 3},
		{[]byte{2, 'a', 'b'}, 2, "ab", 3},
		{[]byte{2, 'a', 'b'}, math.MaxInt, "ab", 3},
		{[]byte{0}, 0, "", 1},
		{[]byte{0, 7}, 9, "", 1},
		{append([]byte{0x80, 1}, make([]byte, 130)...), 128, string(make([]byte, 128)), 130},
	} {
		s, size, err := wire.ReadString(c.b, c.most)
		if string(s) != c.want || size != c.size || err != api.OK {
			t.Errorf("P1.3: ReadString(%x, %d): %x, %d, %d", c.b, c.most, s, size, err)
		}
	}
	for _, length := range []int{0, 1, 127, 128, 300, 1 << 16} {
		b := bytes.Repeat([]byte{0xff}, length)
		form := wire.String(b)
		s, size, err := wire.ReadString(form, length)
		if !bytes.Equal(s, b) || size != len(form) || err != api.OK {
			t.Errorf("P1.3: reading a string of %d bytes back: %d bytes, %d, %d", length, len(s), size, err)
		}
	}
}

func TestReadStringRefused(t *testing.T) {
	half := append(bytes.Repeat([]byte{0xff}, 8), 0x7f) // 2^63 - 1
	full := append(bytes.Repeat([]byte{0xff}, 9), 1)    // 2^64 - 1
	for _, c := range []struct {
		b    []byte
		most int
		want api.Errno
	}{
		{[]byte{2, 'a', 'b'}, -1, api.ErrArg},
		{[]byte{0}, math.MinInt, api.ErrArg},
		{nil, -1, api.ErrArg},
		{[]byte{0x80, 0}, -1, api.ErrArg},
		{nil, 0, api.ErrShort},
		{[]byte{0x82}, 9, api.ErrShort},
		{[]byte{0x82, 0}, 9, api.ErrForm},
		{bytes.Repeat([]byte{0xff}, 10), 0, api.ErrForm},
		{[]byte{2, 'a', 'b'}, 1, api.ErrLong},
		{[]byte{1, 'a'}, 0, api.ErrLong},
		{[]byte{9}, 3, api.ErrLong},
		{full, math.MaxInt, api.ErrLong},
		{append(full, 'a'), 0, api.ErrLong},
		{[]byte{2, 'a'}, 9, api.ErrShort},
		{[]byte{1}, 1, api.ErrShort},
		{[]byte{3, 'a', 'b'}, 3, api.ErrShort},
		{half, math.MaxInt, api.ErrShort},
		{append(half, 'a', 'b'), math.MaxInt, api.ErrShort},
	} {
		s, size, err := wire.ReadString(c.b, c.most)
		if len(s) != 0 || size != 0 || err != c.want {
			t.Errorf("P1.3: ReadString(%x, %d): %x, %d, %d, want %d", c.b, c.most, s, size, err, c.want)
		}
	}
}

func TestReadStringOfAnyBytes(t *testing.T) {
	for _, b := range someBytes() {
		s, size, err := wire.ReadString(b, math.MaxInt)
		if err == api.OK && !bytes.Equal(wire.String(s), b[:size]) {
			t.Fatalf("what follows: of %x the string %x was read, which is written %x", b, s, wire.String(s))
		}
	}
}

func TestReadStringIsNewMemory(t *testing.T) {
	b := []byte{2, 'a', 'b', 'c'}
	s, _, _ := wire.ReadString(b, 9)
	again, _, _ := wire.ReadString(b, 9)
	s[0] = 'z'
	s = append(s, 'z')
	if string(b) != "\x02abc" || string(again) != "ab" {
		t.Errorf("P1.3, P1.5: writing into %q changed %q, %q", s, b, again)
	}
	b[1] = 'y'
	if string(s) != "zbz" {
		t.Errorf("P1.3: writing into the argument changed the answer: %q", s)
	}
}
