package series_test

import (
	"bytes"
	"math"
	"math/rand"
	"slices"
	"strconv"
	"strings"
	"testing"

	"flume/api"
	"flume/series"
	"flume/wire"
)

// takes holds that b is the form of xs, whatever stands behind it.
func takes(t *testing.T, b []byte, xs []float64) {
	t.Helper()
	for _, behind := range []string{"", "\x00", "\xff", "\x80", "\x01\x02\x03\x04\x05\x06\x07\x08\x09"} {
		ys, n, err := series.Unpack(append(bytes.Clone(b), behind...))
		if !slices.Equal(bitsOf(ys), bitsOf(xs)) || n != len(b) || err != api.OK {
			t.Errorf("P5.2: Unpack of %.60x, then %x: %d numbers, %d bytes, error %d, want %d, %d", b, behind, len(ys), n, err, len(xs), len(b))
		}
	}
}

// refuses holds that of b Unpack answers just an error.
func refuses(t *testing.T, b []byte, want api.Errno) {
	t.Helper()
	if xs, n, err := series.Unpack(b); len(xs) != 0 || n != 0 || err != want {
		t.Errorf("P5.2: Unpack(%.60x) of %d bytes: %d numbers, %d, error %d, want error %d", b, len(b), len(xs), n, err, want)
	}
}

func TestUnpackExamples(t *testing.T) {
	refuses(t, []byte("\x01\x00"), api.ErrShort)
	refuses(t, []byte("\x02\x3f\xf0\x00\x00\x00\x00\x00\x00\x01"), api.ErrForm)
	if xs, n, err := series.Unpack([]byte("\x00\x05")); len(xs) != 0 || n != 1 || err != api.OK {
		t.Errorf("P5.2: Unpack(00 05) is %v, %d, error %d", xs, n, err)
	}
	takes(t, []byte("\x02\x3f\xf0\x00\x00\x00\x00\x00\x00\x80\x04"), []float64{1, -1})
}

func TestUnpackOfPack(t *testing.T) {
	for _, xs := range lists() {
		b, _ := series.Pack(xs)
		takes(t, b, xs)
	}
}

func TestUnpackOfWrongCounts(t *testing.T) {
	nine := strings.Repeat("\xff", 9)
	zeros := string(make([]byte, 2000))
	for _, c := range []struct {
		b    string
		want api.Errno
	}{
		{"", api.ErrShort}, {"\x80", api.ErrShort}, {"\x80\x80", api.ErrShort}, {nine, api.ErrShort},
		{"\x80\x00", api.ErrForm}, {"\x81\x00" + zeros, api.ErrForm}, {"\xff\x80\x00" + zeros, api.ErrForm},
		{nine + "\x02", api.ErrForm}, {nine + "\xff", api.ErrForm}, {nine + "\x00", api.ErrForm},
		{nine + "\x01", api.ErrMany}, {nine + "\x01" + zeros, api.ErrMany},
		{strings.Repeat("\x80", 9) + "\x01", api.ErrMany},
		{"\x81\x20", api.ErrMany}, {"\x81\x20" + zeros, api.ErrMany}, {"\x80\x40" + zeros, api.ErrMany},
		{"\x80\x20", api.ErrShort}, {"\x80\x20" + zeros[:519], api.ErrShort},
	} {
		refuses(t, []byte(c.b), c.want)
	}
	refuses(t, wire.Varint(1<<32|1), api.ErrMany)
	refuses(t, append(wire.Varint(1<<63), zeros...), api.ErrMany)
	refuses(t, append(wire.Varint(1<<63|1), zeros...), api.ErrMany)
	takes(t, []byte("\x80\x20"+zeros[:520]), make([]float64, 4096))
}

// Cut short at every place, the count's bytes too.
func TestUnpackOfFormsCutShort(t *testing.T) {
	r := rand.New(rand.NewSource(7))
	far := make([]uint64, 130)
	for i := range far {
		far[i] = r.Uint64()
	}
	ls := append(lists(), repeat(one, 127), repeat(one, 128), repeat(one, 4096), ofBits(far...))
	for _, xs := range ls {
		b, _ := series.Pack(xs)
		for n := range b {
			refuses(t, b[:n:n], api.ErrShort)
		}
	}
}

func TestUnpackOfWrongDifferences(t *testing.T) {
	full := func(n int) string { return strings.Repeat("1", n) }
	for _, text := range []string{
		"1 000000 000000 0",                        // its one bit is 0
		"1 000101 000001 01", "1 000101 000001 10", // the first, the last is 0
		"1 000101 000001 00", "1 000101 000010 011", // both; the first of three
		"1 000101 000010 110", "1 000101 000010 010", // the last of three; both
		"1 000000 111111 0" + full(63),                      // the first of 64
		"1 000000 111111 " + full(63) + "0",                 // the last of 64
		"1 111111 000001 11", "1 000001 111111 " + full(64), // 65 together
		"1 100000 100000 " + full(33),  // 65 together
		"1 111111 111111 " + full(64),  // 127 together
		"1 111111 111111 0" + full(63), // all of these at once
	} {
		for _, rest := range []string{"0", "1"} {
			b := form(2, word(one)+text, rest)
			refuses(t, b, api.ErrForm)
			refuses(t, append(b, 0xff, 0xff), api.ErrForm)
			// Another difference behind it, there or not: the wrong one is met first.
			refuses(t, form(3, word(one)+text, rest), api.ErrForm)
			refuses(t, form(4096, word(one)+"0 0"+text+"1 000000 000000 1", rest), api.ErrForm)
			for n := range b {
				refuses(t, b[:n:n], api.ErrShort)
			}
		}
	}
}

// All sums of leading zeros and bits, just those up to 64 are taken.
func TestUnpackOfAllSizes(t *testing.T) {
	for lead := range 64 {
		for width := 1; width <= 64; width++ {
			b := form(2, word(one)+"1"+six(lead)+six(width-1)+strings.Repeat("1", width), "0")
			if lead+width > 64 {
				refuses(t, b, api.ErrForm)
				continue
			}
			x := uint64(all) >> (64 - width) << (64 - lead - width)
			takes(t, b, ofBits(one, one^x))
		}
	}
}

func TestUnpackOfWrongRests(t *testing.T) {
	for _, xs := range lists() {
		b, _ := series.Pack(xs)
		if len(xs) < 2 {
			continue
		}
		used := 0
		for i := 1; i < len(xs); i++ {
			used += len(difference(math.Float64bits(xs[i]) ^ math.Float64bits(xs[i-1])))
		}
		for bit := range (8 - used%8) % 8 {
			wrong := bytes.Clone(b)
			wrong[len(b)-1] |= 1 << bit
			refuses(t, wrong, api.ErrForm)
			refuses(t, append(wrong, 0), api.ErrForm)
		}
	}
}

// A byte beside what the form takes is none of its own: not one behind a list
// that ends with a byte, nor one that is missing.
func TestUnpackAtWholeBytes(t *testing.T) {
	takes(t, form(9, word(one)+"00000000", "0"), repeat(one, 9))
	refuses(t, form(10, word(one)+"00000000", "0"), api.ErrShort)
	refuses(t, form(9, word(one)+"0000000", "1"), api.ErrShort)
	refuses(t, form(8, word(one)+"0000000", "1"), api.ErrForm)
	takes(t, form(1, word(all), "0"), ofBits(all))
	refuses(t, form(2, word(all), "0"), api.ErrShort)
}

// told is what the document tells of any bytes, worked out from texts.
func told(b []byte) ([]uint64, int, api.Errno) {
	count, front, err := wire.ReadVarint(b)
	if err != api.OK {
		return nil, 0, err
	}
	if count > 4096 {
		return nil, 0, api.ErrMany
	}
	var text strings.Builder
	for _, c := range b[front:] {
		text.WriteString(word(uint64(c))[56:])
	}
	rest := text.String()
	var words []uint64
	for i := range int(count) {
		size := toldSize(rest, i == 0)
		if size > len(rest) {
			return nil, 0, api.ErrShort
		}
		x, ok := toldWord(rest[:size], i == 0)
		if !ok {
			return nil, 0, api.ErrForm
		}
		if i > 0 {
			x ^= words[i-1]
		}
		words, rest = append(words, x), rest[size:]
	}
	over := len(rest) % 8
	if strings.Contains(rest[:over], "1") {
		return nil, 0, api.ErrForm
	}
	return words, len(b) - len(rest)/8, api.OK
}

// toldSize is how many bits the number has whose bits the text begins with;
// more than the text has, if it ends within.
func toldSize(text string, first bool) int {
	switch {
	case first:
		return 64
	case text != "" && text[0] == '0':
		return 1
	case len(text) < 13:
		return 13
	}
	less, _ := strconv.ParseUint(text[7:13], 2, 8)
	return 14 + int(less)
}

func toldWord(text string, first bool) (uint64, bool) {
	if !first && text != "0" {
		lead, _ := strconv.ParseUint(text[1:7], 2, 8)
		text = strings.Repeat("0", int(lead)) + text[13:]
		if len(text) > 64 || text[lead] == '0' || text[len(text)-1] == '0' {
			return 0, false
		}
		text += strings.Repeat("0", 64-len(text))
	}
	x, _ := strconv.ParseUint(text, 2, 64)
	return x, true
}

func holdsTold(t *testing.T, b []byte) {
	t.Helper()
	words, size, want := told(b)
	xs, n, err := series.Unpack(b)
	if !slices.Equal(bitsOf(xs), words) || n != size || err != want {
		t.Errorf("P5.2: Unpack(%x): bits %x, %d, error %d, want %x, %d, error %d", b, bitsOf(xs), n, err, words, size, want)
	}
	if err != api.OK {
		return
	}
	if again, err := series.Pack(xs); !bytes.Equal(again, b[:n]) || err != api.OK {
		t.Errorf("what follows: Pack of Unpack(%x) is %x, error %d", b, again, err)
	}
}

// Whatever the bytes are: forms with a bit or a byte turned, a piece cut out,
// bytes that are no form at all.
func TestUnpackOfAnyBytes(t *testing.T) {
	r := rand.New(rand.NewSource(8))
	ls := drawn()
	for range 30000 {
		b := want(ls[r.Intn(len(ls))])
		if len(b) > 60 {
			b[0] = byte(r.Intn(6))
		}
		switch r.Intn(4) {
		case 0:
			b[r.Intn(len(b))] ^= 1 << r.Intn(8)
		case 1:
			b[r.Intn(len(b))] = byte(r.Intn(256))
		case 2:
			from := r.Intn(len(b) + 1)
			b = slices.Delete(b, from, from+r.Intn(len(b)-from+1))
		default:
			b = make([]byte, r.Intn(40))
			r.Read(b)
			if len(b) > 0 {
				b[0] %= 5
			}
		}
		holdsTold(t, b)
	}
}
