package value_test

import (
	"bytes"
	"cmp"
	"fmt"
	"math"
	"math/rand"
	"slices"
	"strings"
	"testing"

	"flume/api"
	"flume/value"
)

const (
	canonical = 0x7ff8000000000001
	infinite  = 0x7ff0000000000000
	minus     = 1 << 63
)

func none() api.Value { return api.Value{Kind: api.VNil} }

func truth(n int64) api.Value { return api.Value{Kind: api.VBool, Int: n} }

func whole(n int64) api.Value { return api.Value{Kind: api.VInt, Int: n} }

func floating(x float64) api.Value { return api.Value{Kind: api.VReal, Real: x} }

func ofBits(b uint64) api.Value { return floating(math.Float64frombits(b)) }

func text(s string) api.Value { return api.Value{Kind: api.VText, Text: s} }

func list(vs ...api.Value) api.Value { return api.Value{Kind: api.VList, List: vs} }

// long is a text of n bytes.
func long(n int) api.Value { return text(strings.Repeat("x", n)) }

// many is a list of n values VNil.
func many(n int) api.Value { return list(slices.Repeat([]api.Value{none()}, n)...) }

// nested is v within n lists.
func nested(n int, v api.Value) api.Value {
	for range n {
		v = list(v)
	}
	return v
}

// oddNaNs are the bits of NaNs of all kinds, quiet and signalling, of both
// signs.
func oddNaNs() []uint64 {
	return []uint64{canonical, infinite | 1, 0x7ff7ffffffffffff, 0x7ff8000000000000, 1<<63 - 1,
		minus | infinite | 1, minus | canonical, 1<<64 - 1}
}

// equal tells whether two values have the same fields, numbers by their bits.
func equal(a, b api.Value) bool {
	return a.Kind == b.Kind && a.Int == b.Int && math.Float64bits(a.Real) == math.Float64bits(b.Real) &&
		a.Text == b.Text && slices.EqualFunc(a.List, b.List, equal)
}

// show is the front of what a value holds.
func show(v api.Value) string {
	s := fmt.Sprintf("%+v", v)
	return s[:min(len(s), 120)]
}

// rising are values that may be, no two alike, as the order has them.
func rising() []api.Value {
	return []api.Value{
		none(),
		truth(0), truth(1),
		whole(math.MinInt64), whole(math.MinInt64 + 1), whole(-1 << 32), whole(-256), whole(-2), whole(-1), whole(0),
		whole(1), whole(127), whole(128), whole(255), whole(256), whole(1 << 32), whole(math.MaxInt64 - 1), whole(math.MaxInt64),
		floating(math.Inf(-1)), floating(-math.MaxFloat64), floating(-1), floating(-5e-324), ofBits(minus), floating(0),
		floating(5e-324), floating(1), floating(1.5), floating(math.MaxFloat64), floating(math.Inf(1)), floating(math.NaN()),
		text(""), text("\x00"), text("\x00\x00"), text("\x00\x01"), text("\x00\xff"), text("\x01"), text("\x01\x00"),
		text("a"), text("a\x00"), text("a\x00\x00"), text("a\x00\x01"), text("a\x00b"), text("a\x00\xff"), text("a\x01"),
		text("aa"), text("ab"), text("b"), text("\x7f"), text("\x80"), text("é"), text("\xff"), text("\xff\x00"), text("\xff\xff"),
		list(), list(none()), list(none(), none()), list(none(), list()), list(truth(0)), list(truth(1)), list(truth(1), none()),
		list(whole(-1), list()), list(whole(0)), list(ofBits(minus)), list(floating(0)), list(floating(math.NaN())),
		list(text("")), list(text(""), none()), list(text("\x00")), list(text("a")), list(text("a"), none()), list(text("a\x00")),
		list(text("ab")), list(text("\xff")),
		list(list()), list(list(), none()), list(list(), list()), list(list(none())), list(list(none()), none()), list(list(list())),
		nested(8, whole(1)),
	}
}

// holdsItself is a list of n values the last of which is the list again.
func holdsItself(n int) api.Value {
	v := many(n)
	v.List[n-1] = v
	return v
}

// often is a list that holds one list n times, that one another one n times,
// and so on, deep times over.
func often(n, deep int) api.Value {
	v := none()
	for range deep {
		v = list(slices.Repeat([]api.Value{v}, n)...)
	}
	return v
}

// unallowed are values that may not be, for one reason each.
func unallowed() []api.Value {
	negZero := math.Copysign(0, -1)
	wrong := []api.Value{
		{}, {Kind: -1}, {Kind: 7}, {Kind: math.MinInt}, {Kind: math.MaxInt}, {Kind: 1<<8 | api.VNil}, {Kind: 1<<32 | api.VInt},
		{Int: 1}, {Text: "a"}, {List: []api.Value{none()}},
		truth(2), truth(-1), truth(math.MinInt64), truth(math.MaxInt64), truth(1 << 32),
		long(65536), long(65537), list(long(65535)), many(65536), many(65537), list(many(65534), none()), list(none(), many(65534)),
		list(long(32767), long(32768)), list(long(30000), long(30000), long(30000)), nested(8, long(65528)),
		nested(9, none()), nested(9, text("")), nested(8, list()), nested(20, none()), list(nested(7, none()), nested(8, none())),
		list(none(), list(nested(7, list()))),
		holdsItself(1), holdsItself(2), holdsItself(60000), often(2, 9), often(4, 8), often(1000, 8), often(60000, 2),
	}
	for _, kind := range []int{api.VNil, api.VBool, api.VInt, api.VReal, api.VText, api.VList} {
		if kind != api.VBool && kind != api.VInt {
			wrong = append(wrong, api.Value{Kind: kind, Int: 1}, api.Value{Kind: kind, Int: -1}, api.Value{Kind: kind, Int: math.MinInt64})
		}
		if kind != api.VReal {
			wrong = append(wrong, api.Value{Kind: kind, Real: 1}, api.Value{Kind: kind, Real: negZero}, api.Value{Kind: kind, Real: math.NaN()})
		}
		if kind != api.VText {
			wrong = append(wrong, api.Value{Kind: kind, Text: "a"}, api.Value{Kind: kind, Text: "\x00"})
		}
		if kind != api.VList {
			wrong = append(wrong, api.Value{Kind: kind, List: []api.Value{none()}}, api.Value{Kind: kind, List: []api.Value{{}}})
		}
	}
	for _, v := range slices.Clone(wrong) {
		wrong = append(wrong, list(v), list(none(), list(text("a"), v, none())))
	}
	return wrong
}

func TestSize(t *testing.T) {
	for _, c := range []struct {
		v    api.Value
		size int
	}{
		{none(), 1}, {truth(0), 1}, {truth(1), 1}, {whole(0), 1}, {whole(math.MinInt64), 1}, {whole(math.MaxInt64), 1},
		{floating(0), 1}, {ofBits(minus), 1}, {floating(math.Inf(-1)), 1},
		{text(""), 1}, {text("ab"), 3}, {text("\x00\xff"), 3}, {text("é"), 3}, {list(), 1}, {list(none(), text("a")), 4},
		{list(list(), list(list())), 4}, {nested(8, whole(1)), 9}, {nested(7, list()), 8}, {list(nested(7, none()), nested(7, none())), 17},
		{long(65534), 65535}, {long(65535), 65536}, {list(long(65534)), 65536}, {many(65534), 65535}, {many(65535), 65536},
		{list(many(65533), none()), 65536}, {list(none(), many(65533)), 65536}, {list(long(32767), long(32766)), 65536},
		{nested(8, long(65527)), 65536}, {often(2, 8), 511}, {often(3, 8), 9841}, {often(255, 2), 65281},
		{api.Value{Kind: api.VInt, Int: 5, List: []api.Value{}}, 1}, {api.Value{Kind: api.VList, List: []api.Value{}}, 1},
		{api.Value{Kind: api.VText, Text: "a", List: list(api.Value{}).List[:0]}, 2},
	} {
		if size := value.Size(c.v); size != c.size || !value.May(c.v) {
			t.Errorf("P4.1: %s: %v, of the size %d, want %d", show(c.v), value.May(c.v), size, c.size)
		}
	}
	for _, b := range oddNaNs() {
		if v := ofBits(b); value.Size(v) != 1 || !value.May(v) {
			t.Errorf("P4.1: the NaN %x: %v, %d", b, value.May(v), value.Size(v))
		}
	}
}

func TestWhatMayNotBe(t *testing.T) {
	for i, v := range unallowed() {
		if value.May(v) || value.Size(v) != 0 {
			t.Errorf("P4.1: no. %d may be, of the size %d", i, value.Size(v))
		}
		if c, err := value.Copy(v); !equal(c, api.Value{}) || err != api.ErrArg {
			t.Errorf("P4.3: Copy of no. %d: kind %d, %d", i, c.Kind, err)
		}
		if k, err := value.Key(v); len(k) != 0 || err != api.ErrArg {
			t.Errorf("P4.3: Key of no. %d: %d bytes, %d", i, len(k), err)
		}
	}
}

func TestCompareGoesByTheOrder(t *testing.T) {
	vs := rising()
	for i, a := range vs {
		for j, b := range vs {
			want := cmp.Compare(i, j)
			if c := value.Compare(a, b); c != want {
				t.Errorf("P4.2: Compare(%v, %v) is %d, want %d", a, b, c, want)
			}
			if s := value.Same(a, b); s != (want == 0) {
				t.Errorf("P4.2: Same(%v, %v) is %v", a, b, s)
			}
		}
	}
}

func TestCompareExamples(t *testing.T) {
	for _, c := range [][2]api.Value{{whole(5), floating(1)}, {text("a"), text("ab")}, {list(), list(none())}} {
		if value.Compare(c[0], c[1]) != -1 || value.Compare(c[1], c[0]) != 1 {
			t.Errorf("P4.2: Compare(%v, %v) is %d", c[0], c[1], value.Compare(c[0], c[1]))
		}
	}
}

func TestNaNsAreAlike(t *testing.T) {
	for _, b := range oddNaNs() {
		for _, c := range oddNaNs() {
			v, w := list(none(), ofBits(b)), list(none(), ofBits(c))
			if value.Compare(ofBits(b), ofBits(c)) != 0 || !value.Same(ofBits(b), ofBits(c)) || value.Compare(v, w) != 0 || !value.Same(v, w) {
				t.Errorf("P4.2: the NaNs %x and %x are unlike", b, c)
			}
		}
		if value.Compare(ofBits(b), floating(math.Inf(1))) != 1 || value.Compare(ofBits(b), text("")) != -1 {
			t.Errorf("P4.2: the NaN %x is not the last number", b)
		}
	}
}

func TestCompareWithWhatMayNotBe(t *testing.T) {
	others := append(rising(), long(65535), many(65535))
	wrong := unallowed()
	for i, w := range wrong {
		v := others[i%len(others)]
		if value.Compare(w, v) != 1 || value.Compare(v, w) != -1 || value.Same(w, v) || value.Same(v, w) {
			t.Errorf("P4.2: no. %d is not behind %s", i, show(v))
		}
		x := wrong[(i*7+3)%len(wrong)]
		if value.Compare(w, x) != 0 || value.Compare(w, w) != 0 || value.Same(w, x) || value.Same(w, w) {
			t.Errorf("P4.2: no. %d and another one that may not be: %d", i, value.Compare(w, x))
		}
	}
}

func TestCopy(t *testing.T) {
	for _, v := range append(rising(), long(65535), many(65535), nested(8, long(65527))) {
		want := v
		if v.Kind == api.VReal && v.Real != v.Real {
			want = ofBits(canonical)
		}
		if len(v.List) > 0 && v.List[0].Real != v.List[0].Real {
			want = list(ofBits(canonical))
		}
		if c, err := value.Copy(v); !equal(c, want) || err != api.OK {
			t.Errorf("P4.3: Copy(%s) is %s, %d", show(v), show(c), err)
		}
	}
	for _, b := range oddNaNs() {
		c, err := value.Copy(ofBits(b))
		d, _ := value.Copy(list(none(), list(ofBits(b), text("a"))))
		if !equal(c, ofBits(canonical)) || err != api.OK || !equal(d, list(none(), list(ofBits(canonical), text("a")))) {
			t.Errorf("P4.3: Copy of the NaN %x has the bits %x, %d; in a list: %v", b, math.Float64bits(c.Real), err, d)
		}
	}
}

func TestKeyForm(t *testing.T) {
	for _, c := range []struct {
		v   api.Value
		key string
	}{
		{none(), "\x01"}, {truth(0), "\x02\x00"}, {truth(1), "\x02\x01"},
		{whole(0), "\x03\x80\x00\x00\x00\x00\x00\x00\x00"}, {whole(-1), "\x03\x7f\xff\xff\xff\xff\xff\xff\xff"},
		{whole(math.MinInt64), "\x03\x00\x00\x00\x00\x00\x00\x00\x00"}, {whole(math.MaxInt64), "\x03\xff\xff\xff\xff\xff\xff\xff\xff"},
		{whole(0x0102030405060708), "\x03\x81\x02\x03\x04\x05\x06\x07\x08"},
		{ofBits(minus), "\x04\x7f\xff\xff\xff\xff\xff\xff\xff"}, {floating(0), "\x04\x80\x00\x00\x00\x00\x00\x00\x00"},
		{floating(1), "\x04\xbf\xf0\x00\x00\x00\x00\x00\x00"}, {floating(-1), "\x04\x40\x0f\xff\xff\xff\xff\xff\xff"},
		{floating(math.Inf(-1)), "\x04\x00\x0f\xff\xff\xff\xff\xff\xff"}, {floating(math.Inf(1)), "\x04\xff\xf0\x00\x00\x00\x00\x00\x00"},
		{ofBits(0x0102030405060708), "\x04\x81\x02\x03\x04\x05\x06\x07\x08"}, {ofBits(canonical), "\x04" + strings.Repeat("\xff", 8)},
		{text(""), "\x05\x00\x01"}, {text("a\x00"), "\x05a\x00\xff\x00\x01"}, {text("ab"), "\x05ab\x00\x01"},
		{text("\x00"), "\x05\x00\xff\x00\x01"}, {text("\x00\xff"), "\x05\x00\xff\xff\x00\x01"}, {text("\xff"), "\x05\xff\x00\x01"},
		{text("\x00\x00\x01"), "\x05\x00\xff\x00\xff\x01\x00\x01"}, {text("é"), "\x05\xc3\xa9\x00\x01"},
		{list(), "\x06\x00"}, {list(none(), truth(1)), "\x06\x01\x02\x01\x00"}, {list(list(), list(none())), "\x06\x06\x00\x06\x01\x00\x00"},
		{list(text(""), none()), "\x06\x05\x00\x01\x01\x00"},
		{text(strings.Repeat("\x00", 65535)), "\x05" + strings.Repeat("\x00\xff", 65535) + "\x00\x01"},
		{many(65535), "\x06" + strings.Repeat("\x01", 65535) + "\x00"},
	} {
		if k, err := value.Key(c.v); string(k) != c.key || err != api.OK {
			t.Errorf("P4.3: Key(%s) is %.60x, %d, want %.60x", show(c.v), k, err, c.key)
		}
	}
	for _, b := range oddNaNs() {
		if k, err := value.Key(list(ofBits(b))); string(k) != "\x06\x04"+strings.Repeat("\xff", 8)+"\x00" || err != api.OK {
			t.Errorf("P4.3: Key of a list of the NaN %x is %x, %d", b, k, err)
		}
	}
}

func keyOf(t *testing.T, v api.Value) []byte {
	t.Helper()
	k, err := value.Key(v)
	if err != api.OK {
		t.Fatalf("P4.3: Key(%s): %d", show(v), err)
	}
	return k
}

func TestKeysSortAsValuesDo(t *testing.T) {
	vs := rising()
	for i, a := range vs {
		for j, b := range vs {
			k, l := keyOf(t, a), keyOf(t, b)
			if bytes.Compare(k, l) != cmp.Compare(i, j) {
				t.Errorf("what follows: the keys of %v and %v compare as %d", a, b, bytes.Compare(k, l))
			}
			if i != j && bytes.HasPrefix(k, l) {
				t.Errorf("what follows: the key of %v is the front of that of %v", b, a)
			}
		}
	}
}

// drawn is a value by chance, within so many lists.
func drawn(r *rand.Rand, lists int) api.Value {
	switch r.Intn(8) {
	case 0:
		return none()
	case 1:
		return truth(int64(r.Intn(2)))
	case 2:
		return whole(int64(r.Uint64()) >> r.Intn(64))
	case 3:
		return ofBits(r.Uint64() | infinite*uint64(r.Intn(2)))
	case 4:
		s := make([]byte, r.Intn(4))
		for i := range s {
			s[i] = []byte{0, 1, 'a', 0xff}[r.Intn(4)]
		}
		return text(string(s))
	}
	v := list()
	for range r.Intn(5) {
		if lists < 7 {
			v.List = append(v.List, drawn(r, lists+1))
		}
	}
	return v
}

func TestDrawnValues(t *testing.T) {
	r := rand.New(rand.NewSource(4))
	for range 5000 {
		a, b := drawn(r, 0), drawn(r, 0)
		j, k := keyOf(t, a), keyOf(t, b)
		want := bytes.Compare(j, k)
		if value.Compare(a, b) != want || value.Compare(b, a) != -want || value.Same(a, b) != (want == 0) || !value.Same(a, a) {
			t.Fatalf("P4.2: %v and %v: %d, their keys %d", a, b, value.Compare(a, b), want)
		}
		c, err := value.Copy(a)
		if err != api.OK || !value.Same(a, c) || value.Size(a) != value.Size(c) {
			t.Fatalf("P4.3: Copy(%v) is %v, %d", a, c, err)
		}
		v, n, err := value.Read(slices.Concat(j, k))
		if !equal(v, c) || n != len(j) || err != api.OK {
			t.Fatalf("P4.4: Read(%x, then %x) is %v, %d, %d", j, k, v, n, err)
		}
	}
}

// overwrite writes into a value's lists, their spare room too.
func overwrite(v api.Value) {
	for _, inner := range v.List {
		overwrite(inner)
	}
	vs := v.List[:cap(v.List)]
	for i := range vs {
		vs[i] = text("written over")
	}
}

func TestCopyIsNewMemory(t *testing.T) {
	build := func() api.Value {
		inner := list(whole(1), text("b"))
		return list(none(), inner, list(inner, floating(2)), list())
	}
	v := build()
	c, _ := value.Copy(v)
	again, _ := value.Copy(v)
	overwrite(v)
	if !equal(c, build()) || !equal(again, build()) {
		t.Errorf("P4.5: what was handed in, written over, changed the copies: %v, %v", c, again)
	}
	overwrite(c.List[1])
	if want := build(); !equal(c.List[2], want.List[2]) || !equal(again, want) {
		t.Errorf("P4.5: lists of one copy, or two copies, share memory: %v, %v", c.List[2], again)
	}
}

func TestArgumentsStayAsTheyWere(t *testing.T) {
	build := func() []api.Value {
		return []api.Value{none(), ofBits(infinite | 7), list(ofBits(minus|infinite|1), text("a"), api.Value{Kind: 9}), text("spare")}
	}
	vs := build()
	for _, v := range []api.Value{list(vs[:2]...), list(vs[:3]...)} {
		value.May(v)
		value.Size(v)
		value.Compare(v, v)
		value.Same(v, v)
		value.Copy(v)
		value.Key(v)
	}
	if !equal(list(vs...), list(build()...)) {
		t.Errorf("P4.5: what was handed in was changed: %v", vs)
	}
}

func TestKeyIsNewMemory(t *testing.T) {
	v := list(text("a"), list(none()))
	k, again := keyOf(t, v), keyOf(t, v)
	want := bytes.Clone(again)
	overwrite(v)
	clear(k[:cap(k)])
	if !bytes.Equal(again, want) {
		t.Errorf("P4.5: two keys share memory: %x", again)
	}
}
