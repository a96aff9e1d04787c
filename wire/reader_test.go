package wire_test

import (
	"bytes"
	"math"
	"slices"
	"testing"

	"flume/api"
	"flume/wire"
)

// want holds a reader's place, rest and error against what they should be.
func want(t *testing.T, r *wire.Reader, at, left, errAt int, err api.Errno) {
	t.Helper()
	gotAt, gotErr := r.Err()
	if r.At() != at || r.Left() != left || gotAt != errAt || gotErr != err {
		t.Errorf("P1.4: At %d, Left %d, Err %d, %d, want %d, %d, %d, %d", r.At(), r.Left(), gotAt, gotErr, at, left, errAt, err)
	}
}

// wantZeros makes every reading call of a reader that stopped.
func wantZeros(t *testing.T, r *wire.Reader) {
	t.Helper()
	if n := r.Varint(math.MaxUint64); n != 0 {
		t.Errorf("P1.4: Varint of a reader that stopped: %d", n)
	}
	if n := r.Signed(); n != 0 {
		t.Errorf("P1.4: Signed of a reader that stopped: %d", n)
	}
	if n := r.Fixed32(); n != 0 {
		t.Errorf("P1.4: Fixed32 of a reader that stopped: %d", n)
	}
	if n := r.Fixed64(); n != 0 {
		t.Errorf("P1.4: Fixed64 of a reader that stopped: %d", n)
	}
	if s := r.String(math.MaxInt); len(s) != 0 {
		t.Errorf("P1.4: String of a reader that stopped: %x", s)
	}
	if s := r.String(-1); len(s) != 0 {
		t.Errorf("P1.4: String(-1) of a reader that stopped: %x", s)
	}
	if c := r.Byte(); c != 0 {
		t.Errorf("P1.4: Byte of a reader that stopped: %d", c)
	}
}

func TestReaderExample(t *testing.T) {
	r := wire.NewReader([]byte{5, 1, 0})
	want(t, r, 0, 3, 0, api.OK)
	if n := r.Varint(9); n != 5 {
		t.Errorf("P1.4: Varint: %d", n)
	}
	want(t, r, 1, 2, 0, api.OK)
	if n := r.Fixed32(); n != 0 {
		t.Errorf("P1.4: Fixed32: %d", n)
	}
	if c := r.Byte(); c != 0 {
		t.Errorf("P1.4: Byte: %d", c)
	}
	want(t, r, 1, 2, 1, api.ErrShort)
}

func TestReaderGoesOn(t *testing.T) {
	b := slices.Concat(
		wire.Varint(300), wire.Varint(wire.Zig(-150)), wire.Fixed32(0xfffefdfc),
		wire.Fixed64(0xfffefdfcfbfaf9f8), wire.String([]byte("ab")), []byte{0xfe},
		wire.String(nil), wire.Varint(math.MaxUint64), wire.Varint(wire.Zig(math.MinInt64)),
	)
	r := wire.NewReader(b)
	at := 0
	step := func(name string, ok bool, size int) {
		t.Helper()
		at += size
		if !ok {
			t.Errorf("P1.4: %s: not what was written", name)
		}
		want(t, r, at, len(b)-at, 0, api.OK)
	}
	step("Varint", r.Varint(300) == 300, 2)
	step("Signed", r.Signed() == -150, 2)
	step("Fixed32", r.Fixed32() == 0xfffefdfc, 4)
	step("Fixed64", r.Fixed64() == 0xfffefdfcfbfaf9f8, 8)
	step("String", string(r.String(2)) == "ab", 3)
	step("Byte", r.Byte() == 0xfe, 1)
	step("String", len(r.String(0)) == 0, 1)
	step("Varint", r.Varint(math.MaxUint64) == math.MaxUint64, 10)
	step("Signed", r.Signed() == math.MinInt64, 10)
	want(t, r, len(b), 0, 0, api.OK)
}

func TestReaderStops(t *testing.T) {
	varint := func(most uint64) func(*wire.Reader) bool {
		return func(r *wire.Reader) bool { return r.Varint(most) == 0 }
	}
	text := func(most int) func(*wire.Reader) bool {
		return func(r *wire.Reader) bool { return len(r.String(most)) == 0 }
	}
	signed := func(r *wire.Reader) bool { return r.Signed() == 0 }
	fixed32 := func(r *wire.Reader) bool { return r.Fixed32() == 0 }
	fixed64 := func(r *wire.Reader) bool { return r.Fixed64() == 0 }
	one := func(r *wire.Reader) bool { return r.Byte() == 0 }
	ff := bytes.Repeat([]byte{0xff}, 10)
	for _, c := range []struct {
		name string
		b    []byte
		read func(*wire.Reader) bool
		err  api.Errno
	}{
		{"Varint", nil, varint(9), api.ErrShort},
		{"Varint", []byte{0x80}, varint(9), api.ErrShort},
		{"Varint", []byte{0x80, 0}, varint(9), api.ErrForm},
		{"Varint", ff, varint(0), api.ErrForm},
		{"Varint", []byte{0xac, 2, 1}, varint(299), api.ErrLong},
		{"Varint", []byte{1}, varint(0), api.ErrLong},
		{"Varint", append(ff[:9:9], 1), varint(math.MaxUint64 - 1), api.ErrLong},
		{"Signed", nil, signed, api.ErrShort},
		{"Signed", []byte{0xff, 0x80}, signed, api.ErrShort},
		{"Signed", []byte{0xff, 0}, signed, api.ErrForm},
		{"Fixed32", nil, fixed32, api.ErrShort},
		{"Fixed32", []byte{1, 2, 3}, fixed32, api.ErrShort},
		{"Fixed64", nil, fixed64, api.ErrShort},
		{"Fixed64", []byte{1, 2, 3, 4, 5, 6, 7}, fixed64, api.ErrShort},
		{"Byte", nil, one, api.ErrShort},
		{"String", nil, text(9), api.ErrShort},
		{"String", []byte{1, 'a'}, text(-1), api.ErrArg},
		{"String", nil, text(math.MinInt), api.ErrArg},
		{"String", []byte{0x81, 0}, text(9), api.ErrForm},
		{"String", []byte{2, 'a', 'b'}, text(1), api.ErrLong},
		{"String", []byte{9}, text(3), api.ErrLong},
		{"String", []byte{2, 'a'}, text(9), api.ErrShort},
	} {
		for ahead := range 3 {
			r := wire.NewReader(slices.Concat([]byte{7, 7, 7}[:ahead], c.b))
			for range ahead {
				r.Byte()
			}
			want(t, r, ahead, len(c.b), 0, api.OK)
			if !c.read(r) {
				t.Errorf("P1.4: %s of %x answered more than zero", c.name, c.b)
			}
			want(t, r, ahead, len(c.b), ahead, c.err)
			wantZeros(t, r)
			want(t, r, ahead, len(c.b), ahead, c.err)
		}
	}
}

// A read that would have room must not wake a reader that stopped, nor may another error take the first one's place.
func TestReaderStaysStopped(t *testing.T) {
	r := wire.NewReader([]byte{1, 2, 2, 3, 4, 5, 6, 7, 8, 9})
	r.Byte()
	r.Varint(1)
	want(t, r, 1, 9, 1, api.ErrLong)
	wantZeros(t, r)
	want(t, r, 1, 9, 1, api.ErrLong)
}

func TestReaderKeepsItsOwnCopy(t *testing.T) {
	b := []byte{2, 'a', 'b', 2, 'c', 'd', 'e'}
	r := wire.NewReader(b[:6])
	b[1], b[4] = 'x', 'x'
	first := r.String(9)
	if string(first) != "ab" {
		t.Errorf("P1.5: writing into what was handed in changed the reader: %q", first)
	}
	first[0] = 'z'
	first = append(first, 9, 'z', 'z')
	if s := r.String(9); string(s) != "cd" {
		t.Errorf("P1.5: writing into an answer (%q) changed the reader: %q", first, s)
	}
	if string(b) != "\x02xb\x02xde" {
		t.Errorf("P1.5: what was handed in was changed: %q", b)
	}
}

func TestReadersKnowNothingOfEachOther(t *testing.T) {
	b := []byte{1, 2}
	r, other := wire.NewReader(b), wire.NewReader(b)
	r.Byte()
	r.Fixed64()
	want(t, r, 1, 1, 1, api.ErrShort)
	want(t, other, 0, 2, 0, api.OK)
}

func TestReaderOfNothing(t *testing.T) {
	for _, r := range []*wire.Reader{nil, {}, new(wire.Reader), wire.NewReader(nil), wire.NewReader([]byte{})} {
		want(t, r, 0, 0, 0, api.OK)
		wantZeros(t, r)
		if r.At() != 0 || r.Left() != 0 {
			t.Errorf("P1.5: of no bytes: At %d, Left %d", r.At(), r.Left())
		}
	}
	for _, r := range []*wire.Reader{{}, new(wire.Reader), wire.NewReader(nil)} {
		r.Byte()
		want(t, r, 0, 0, 0, api.ErrShort)
	}
	for _, r := range []*wire.Reader{{}, wire.NewReader(nil)} {
		r.String(-1)
		want(t, r, 0, 0, 0, api.ErrArg)
		r.Byte()
		want(t, r, 0, 0, 0, api.ErrArg)
	}
}
