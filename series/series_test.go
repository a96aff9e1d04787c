package series_test

import (
	"bytes"
	"math"
	"math/rand"
	"slices"
	"strconv"
	"strings"
	"testing"

	"flume/api"
	"flume/real"
	"flume/series"
	"flume/wire"
)

const (
	canonical = 0x7ff8000000000001
	infinite  = 0x7ff0000000000000
	minus     = 1 << 63
	one       = 0x3ff0000000000000
	all       = 1<<64 - 1
)

// ofBits is the numbers of these bits.
func ofBits(words ...uint64) []float64 {
	xs := make([]float64, len(words))
	for i, w := range words {
		xs[i] = math.Float64frombits(w)
	}
	return xs
}

// bitsOf is the numbers' bits: by them NaNs and zeros are told apart.
func bitsOf(xs []float64) []uint64 {
	words := make([]uint64, len(xs))
	for i, x := range xs {
		words[i] = math.Float64bits(x)
	}
	return words
}

// repeat is a list of n numbers of the bits w.
func repeat(w uint64, n int) []float64 { return ofBits(slices.Repeat([]uint64{w}, n)...) }

// oddWords are bits of NaNs of all kinds, zeros, infinities and edges of the
// numbers between, of both signs.
func oddWords() []uint64 {
	return []uint64{canonical, infinite | 1, 0x7ff7ffffffffffff, 0x7ff8000000000000, 1<<63 - 1,
		minus | infinite | 1, minus | canonical, all,
		0, minus, infinite, minus | infinite, 1, minus | 1, 1<<52 - 1, 1 << 52, infinite - 1, minus | infinite - 1, one, minus | one}
}

// six is six bits as text.
func six(n int) string {
	s := strconv.FormatInt(int64(n), 2)
	return strings.Repeat("0", 6-len(s)) + s
}

// word is the 64 bits of w as text.
func word(w uint64) string {
	s := strconv.FormatUint(w, 2)
	return strings.Repeat("0", 64-len(s)) + s
}

// difference is the text of a difference's bits, by its zeros' text alone.
func difference(x uint64) string {
	if x == 0 {
		return "0"
	}
	s := word(x)
	middle := strings.Trim(s, "0")
	return "1" + six(strings.Index(s, "1")) + six(len(middle)-1) + middle
}

// form is a count as a varint, then bits as text, filled up by rest to whole
// bytes; blanks between the bits are for the reader.
func form(count uint64, text, rest string) []byte {
	text = strings.ReplaceAll(text, " ", "")
	for len(text)%8 != 0 {
		text += rest
	}
	b := wire.Varint(count)
	for ; text != ""; text = text[8:] {
		n, _ := strconv.ParseUint(text[:8], 2, 8)
		b = append(b, byte(n))
	}
	return b
}

// want is the form of a list, made of texts.
func want(xs []float64) []byte {
	words := bitsOf(xs)
	var text strings.Builder
	for i, w := range words {
		if i == 0 {
			text.WriteString(word(w))
		} else {
			text.WriteString(difference(w ^ words[i-1]))
		}
	}
	return form(uint64(len(xs)), text.String(), "0")
}

// lists are lists of all sorts: the edges of the form, and drawn ones.
func lists() [][]float64 {
	odd := oddWords()
	ls := [][]float64{nil, {}, ofBits(odd...), ofBits(one, one), ofBits(one, minus|one), ofBits(0, all), ofBits(0, all, 0)}
	for _, w := range odd {
		ls = append(ls, ofBits(w), ofBits(w, w), ofBits(w, w^minus), ofBits(one, w, one), ofBits(w, 0, w, minus, w))
	}
	for lead := range 64 {
		for width := 1; lead+width <= 64; width++ {
			trail := 64 - lead - width
			full := uint64(all) >> lead >> trail << trail
			ends := uint64(1)<<(63-lead) | uint64(1)<<trail
			ls = append(ls, ofBits(one, one^full), ofBits(canonical, canonical^ends, canonical))
		}
	}
	return append(ls, drawn()...)
}

func drawn() [][]float64 {
	r := rand.New(rand.NewSource(5))
	odd := oddWords()
	var ls [][]float64
	for range 500 {
		words := make([]uint64, r.Intn(40))
		for i := range words {
			words[i] = drawWord(r, words[max(i-1, 0)], odd)
		}
		ls = append(ls, ofBits(words...))
	}
	return ls
}

// drawWord draws the bits of a number behind one of the bits ahead.
func drawWord(r *rand.Rand, ahead uint64, odd []uint64) uint64 {
	switch r.Intn(5) {
	case 0:
		return r.Uint64()
	case 1:
		return odd[r.Intn(len(odd))]
	case 2:
		return ahead ^ 1<<r.Intn(64)
	case 3:
		return ahead ^ r.Uint64()>>r.Intn(64)<<r.Intn(64)
	}
	return ahead
}

func TestPackExamples(t *testing.T) {
	first := "\x3f\xf0\x00\x00\x00\x00\x00\x00"
	for _, c := range []struct {
		xs   []float64
		want string
	}{
		{nil, "\x00"}, {[]float64{}, "\x00"},
		{[]float64{1}, "\x01" + first},
		{[]float64{1, 1}, "\x02" + first + "\x00"},
		{[]float64{1, -1}, "\x02" + first + "\x80\x04"},
	} {
		if b, err := series.Pack(c.xs); string(b) != c.want || err != api.OK {
			t.Errorf("P5.1: Pack(%v) is %x, error %d, want %x", c.xs, b, err, c.want)
		}
	}
}

func TestPackIsTheForm(t *testing.T) {
	for _, xs := range lists() {
		if b, err := series.Pack(xs); !bytes.Equal(b, want(xs)) || err != api.OK {
			t.Errorf("P5.1: Pack of the bits %x is %x, error %d, want %x", bitsOf(xs), b, err, want(xs))
		}
	}
}

// The form's bits written out by hand.
func TestPackByHand(t *testing.T) {
	for _, c := range []struct {
		b, a uint64
		text string
	}{
		{0, 0, "0"},
		{0, minus, "1 000000 000000 1"},
		{0, 1, "1 111111 000000 1"},
		{0, 3, "1 111110 000001 11"},
		{0, 5 << 61, "1 000000 000010 101"},
		{1, minus, "1 000000 111111 1" + strings.Repeat("0", 62) + "1"},
		{0, all, "1 000000 111111 " + strings.Repeat("1", 64)},
		{one, one ^ 0x00f0, "1 111000 000011 1111"},
	} {
		b, err := series.Pack(ofBits(c.b, c.a))
		if w := form(2, word(c.b)+c.text, "0"); !bytes.Equal(b, w) || err != api.OK {
			t.Errorf("P5.1: Pack of the bits %x, %x is %x, error %d, want %x", c.b, c.a, b, err, w)
		}
	}
}

func TestHowManyMayBe(t *testing.T) {
	for _, n := range []int{4097, 4098, 10000} {
		for _, w := range []uint64{0, one, canonical} {
			if b, err := series.Pack(repeat(w, n)); len(b) != 0 || err != api.ErrMany {
				t.Errorf("P5.1: Pack of %d numbers: %d bytes, error %d", n, len(b), err)
			}
			if y, err := series.Tell(repeat(w, n)); y != (api.Tally{}) || err != api.ErrMany {
				t.Errorf("P5.3: Tell of %d numbers: %v, error %d", n, y, err)
			}
		}
	}
	r := rand.New(rand.NewSource(6))
	for _, n := range []int{127, 128, 129, 4095, 4096} {
		words := make([]uint64, n)
		for i := range words {
			words[i] = r.Uint64()
		}
		xs := ofBits(words...)
		b, err := series.Pack(xs)
		if !bytes.Equal(b, want(xs)) || err != api.OK {
			t.Errorf("P5.1: Pack of %d numbers: %d bytes, error %d", n, len(b), err)
		}
		takes(t, b, xs)
	}
}

func TestEqualNumbers(t *testing.T) {
	for _, w := range []uint64{0, minus, one, infinite, canonical, all} {
		for _, n := range []int{1, 2, 8, 9, 10, 127, 128, 129, 4095, 4096} {
			size := 9 + (n-1+7)/8
			if n >= 128 {
				size++
			}
			b, err := series.Pack(repeat(w, n))
			if len(b) != size || err != api.OK {
				t.Errorf("what follows: %d numbers of the bits %x have %d bytes, error %d, want %d", n, w, len(b), err, size)
			}
			takes(t, b, repeat(w, n))
		}
	}
}

// tally is Tell's answer, held bit by bit.
func tally(t *testing.T, xs []float64, want api.Tally) {
	t.Helper()
	y, err := series.Tell(xs)
	same := slices.Equal(bitsOf([]float64{y.Least, y.Greatest, y.Sum}), bitsOf([]float64{want.Least, want.Greatest, want.Sum}))
	if !same || y.Count != want.Count || y.NaNs != want.NaNs || err != api.OK {
		t.Errorf("P5.3: Tell of the bits %x is %v, error %d, want %v", bitsOf(xs), y, err, want)
	}
}

func TestTellByHand(t *testing.T) {
	nan, inf, nought := math.Float64frombits(canonical), math.Inf(1), math.Copysign(0, -1)
	for _, c := range []struct {
		xs   []float64
		want api.Tally
	}{
		{nil, api.Tally{}}, {[]float64{}, api.Tally{}},
		{[]float64{nan, nought, 2}, api.Tally{Count: 3, NaNs: 1, Least: nought, Greatest: 2, Sum: nan}},
		{[]float64{7}, api.Tally{Count: 1, Least: 7, Greatest: 7, Sum: 7}},
		{[]float64{nought}, api.Tally{Count: 1, Least: nought, Greatest: nought, Sum: nought}},
		{[]float64{nought, nought}, api.Tally{Count: 2, Least: nought, Greatest: nought, Sum: nought}},
		{[]float64{0, nought}, api.Tally{Count: 2, Least: nought, Greatest: 0, Sum: 0}},
		{[]float64{3, -5, 1}, api.Tally{Count: 3, Least: -5, Greatest: 3, Sum: -1}},
		{[]float64{inf, 1}, api.Tally{Count: 2, Least: 1, Greatest: inf, Sum: inf}},
		{[]float64{inf, -inf}, api.Tally{Count: 2, Least: -inf, Greatest: inf, Sum: nan}},
		{[]float64{1, 1e100, 1, -1e100}, api.Tally{Count: 4, Least: -1e100, Greatest: 1e100, Sum: 2}},
		{ofBits(oddWords()[:8]...), api.Tally{Count: 8, NaNs: 8, Least: nan, Greatest: nan, Sum: nan}},
		{ofBits(all), api.Tally{Count: 1, NaNs: 1, Least: nan, Greatest: nan, Sum: nan}},
	} {
		tally(t, c.xs, c.want)
	}
	tally(t, repeat(one, 4096), api.Tally{Count: 4096, Least: 1, Greatest: 1, Sum: 4096})
	tally(t, repeat(all, 4096), api.Tally{Count: 4096, NaNs: 4096, Least: nan, Greatest: nan, Sum: nan})
}

func TestTellIsWhatRealTells(t *testing.T) {
	for _, xs := range lists() {
		w := api.Tally{Count: len(xs), Sum: real.Sum(xs...)}
		w.Least, _ = real.Min(xs...)
		w.Greatest, _ = real.Max(xs...)
		for _, x := range xs {
			if real.Class(x) == 1 {
				w.NaNs++
			}
		}
		tally(t, xs, w)
	}
}

// What is handed in stays as it was, its spare room too, and is not kept.
func TestArguments(t *testing.T) {
	room := ofBits(oddWords()...)
	before := bitsOf(room)
	xs := room[:12]
	b, _ := series.Pack(xs)
	series.Tell(xs)
	if !slices.Equal(bitsOf(room), before) {
		t.Errorf("P0.3: the list, or its spare room, became %x", bitsOf(room))
	}
	form := bytes.Clone(b)
	clear(room)
	if !bytes.Equal(b, form) {
		t.Errorf("P5.4: the bytes changed with the list")
	}
	bytesRoom := append(bytes.Clone(form), "behind it all"...)
	old := bytes.Clone(bytesRoom)
	ys, _, _ := series.Unpack(bytesRoom[:len(form)+2])
	if !bytes.Equal(bytesRoom, old) {
		t.Errorf("P0.3: the bytes, or their spare room, became %x", bytesRoom)
	}
	clear(bytesRoom)
	if !slices.Equal(bitsOf(ys), before[:12]) {
		t.Errorf("P5.4: the list changed with the bytes: %x", bitsOf(ys))
	}
}

// Whoever writes into an answer, or behind it, changes no other answer.
func TestNewMemory(t *testing.T) {
	for _, xs := range [][]float64{nil, ofBits(one), ofBits(oddWords()...), repeat(one, 128)} {
		b, _ := series.Pack(xs)
		form := bytes.Clone(b)
		spoil(b[:cap(b)], 0xa5)
		again, _ := series.Pack(xs)
		if !bytes.Equal(again, form) {
			t.Errorf("P5.4: Pack of %d numbers became %x", len(xs), again)
		}
		spoil(b[:cap(b)], 0x5a)
		if !bytes.Equal(again, form) {
			t.Errorf("P5.4: two answers of Pack share memory")
		}
		ys, _, _ := series.Unpack(form)
		spoil(ys[:cap(ys)], 7)
		zs, _, _ := series.Unpack(form)
		spoil(ys[:cap(ys)], 8)
		if !slices.Equal(bitsOf(zs), bitsOf(xs)) || !bytes.Equal(again, form) {
			t.Errorf("P5.4: two answers of Unpack share memory")
		}
	}
}

func spoil[T any](list []T, x T) {
	for i := range list {
		list[i] = x
	}
}
