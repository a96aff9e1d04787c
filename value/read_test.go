package value_test

import (
	"bytes"
	"math"
	"slices"
	"strings"
	"testing"

	"flume/api"
	"flume/value"
)

// refuse holds that of b Read answers an error at a place.
func refuse(t *testing.T, b string, at int, want api.Errno) {
	t.Helper()
	v, place, err := value.Read([]byte(b))
	if !equal(v, api.Value{}) || place != at || err != want {
		t.Errorf("P4.4: Read(%.40x) of %d bytes: kind %d, %d, error %d, want %d, error %d", b, len(b), v.Kind, place, err, at, want)
	}
}

func TestReadExamples(t *testing.T) {
	refuse(t, "\x02\x02", 1, api.ErrForm)
	refuse(t, "\x05a", 2, api.ErrShort)
	refuse(t, "\x07", 0, api.ErrForm)
	refuse(t, "", 0, api.ErrShort)
	refuse(t, "\x04"+strings.Repeat("\x00", 8), 1, api.ErrForm)
	if v, n, err := value.Read([]byte("\x06\x01\x00\x09")); !equal(v, list(none())) || n != 3 || err != api.OK {
		t.Errorf("P4.4: Read(06 01 00 09) is %v, %d, %d", v, n, err)
	}
	if v, n, err := value.Read([]byte("\x04" + strings.Repeat("\xff", 8))); !equal(v, ofBits(canonical)) || n != 9 || err != api.OK {
		t.Errorf("P4.4: Read(04 and eight bytes ff) is %v, %d, %d", v, n, err)
	}
	if v, n, err := value.Read(nil); !equal(v, api.Value{}) || n != 0 || err != api.ErrShort {
		t.Errorf("P4.4: Read(nil) is %v, %d, %d", v, n, err)
	}
}

func TestReadTurnsKeyRound(t *testing.T) {
	greatest := []api.Value{long(65535), text(strings.Repeat("\x00", 65535)), text(strings.Repeat("\xff", 65535)), many(65535),
		list(many(65533), none()), list(long(65534)), nested(8, long(65527)), nested(7, many(65528)), list(long(32767), long(32766)),
		list(nested(7, none()), nested(7, whole(1)), nested(7, text("a\x00")))}
	for _, v := range append(rising(), greatest...) {
		k := keyOf(t, v)
		want, _ := value.Copy(v)
		for _, behind := range []string{"", "\x00", "\x01", "\x06", "\xff", "\x00\x01\x00\xff"} {
			got, n, err := value.Read(append(bytes.Clone(k), behind...))
			if !equal(got, want) || n != len(k) || err != api.OK {
				t.Errorf("P4.4: of the key of %s, then %x: %s, %d, %d", show(v), behind, show(got), n, err)
			}
		}
	}
}

func TestReadOfKeysCutShort(t *testing.T) {
	for _, v := range append(rising(), list(rising()[:60]...), long(300)) {
		k := string(keyOf(t, v))
		for n := range len(k) {
			refuse(t, k[:n], n, api.ErrShort)
		}
	}
	for _, v := range []api.Value{long(65535), many(65535), nested(8, long(65527))} {
		k := string(keyOf(t, v))
		for n := 1; n < len(k); n += 1 + n/8 {
			refuse(t, k[:n], n, api.ErrShort)
		}
		refuse(t, k[:len(k)-1], len(k)-1, api.ErrShort)
	}
}

// Every byte where only some may stand.
func TestReadOfWrongBytes(t *testing.T) {
	for c := range 256 {
		b := string([]byte{byte(c)})
		if c == 0 || c > 6 {
			for _, behind := range []string{"", "\x00", "\x01\x01\x01\x01\x01\x01\x01\x01\x01"} {
				refuse(t, b+behind, 0, api.ErrForm)
			}
		}
		if c > 6 {
			refuse(t, "\x06"+b, 1, api.ErrForm)
			refuse(t, "\x06\x01\x06\x00"+b+"\x00", 4, api.ErrForm)
		}
		if c > 1 {
			refuse(t, "\x02"+b, 1, api.ErrForm)
			refuse(t, "\x06\x02\x01\x02"+b+"\x00", 4, api.ErrForm)
		}
		if c != 1 && c != 0xff {
			refuse(t, "\x05\x00"+b, 2, api.ErrForm)
			refuse(t, "\x05a\x00\xff\x00"+b+"\x00\x01", 5, api.ErrForm)
			refuse(t, "\x06\x05\x00\x01\x05\x00"+b+"\x00", 6, api.ErrForm)
		}
	}
	refuse(t, "\x00\x07", 0, api.ErrForm)
}

func TestReadOfNoNumbersKey(t *testing.T) {
	for _, eight := range []string{
		"\x00\x00\x00\x00\x00\x00\x00\x00", "\x00\x0f\xff\xff\xff\xff\xff\xfe", "\xff\xf0\x00\x00\x00\x00\x00\x01",
		"\xff\xf8\x00\x00\x00\x00\x00\x01", "\xff\xff\xff\xff\xff\xff\xff\xfe",
	} {
		refuse(t, "\x04"+eight, 1, api.ErrForm)
		refuse(t, "\x04"+eight+"\x07", 1, api.ErrForm)
		refuse(t, "\x06\x01\x04"+eight+"\x00", 3, api.ErrForm)
		for n := range 8 {
			refuse(t, "\x04"+eight[:n], 1+n, api.ErrShort)
			refuse(t, "\x06\x01\x04"+eight[:n], 3+n, api.ErrShort)
		}
	}
	for eight, want := range map[string]float64{
		"\x00\x0f\xff\xff\xff\xff\xff\xff": math.Inf(-1), "\xff\xf0\x00\x00\x00\x00\x00\x00": math.Inf(1),
		"\x7f\xff\xff\xff\xff\xff\xff\xff": math.Copysign(0, -1), "\x80\x00\x00\x00\x00\x00\x00\x00": 0,
	} {
		if v, n, err := value.Read([]byte("\x04" + eight)); !equal(v, floating(want)) || n != 9 || err != api.OK {
			t.Errorf("P4.4: Read(04 %x) is %v, %d, %d", eight, v, n, err)
		}
	}
}

func TestReadOfListsWithinLists(t *testing.T) {
	eight := strings.Repeat("\x06", 8)
	for _, front := range []string{eight, eight + "\x01", eight + "\x00\x06", eight + "\x00\x00\x06\x06"} {
		for _, behind := range []string{"", "\x00", "\x07", strings.Repeat("\x00", 9), "\x06\x06", "\x05"} {
			refuse(t, front+"\x06"+behind, len(front), api.ErrLong)
		}
	}
	refuse(t, eight, 8, api.ErrShort)
	refuse(t, eight+"\x07\x06", 8, api.ErrForm)
	refuse(t, eight+"\x02\x02\x06", 9, api.ErrForm)
}

func TestReadOfTooGreatSizes(t *testing.T) {
	full := "\x06" + strings.Repeat("\x01", 65535) // of the size 65,536
	for _, behind := range []string{"\x01", "\x01\x00", "\x02", "\x02\x02", "\x02\x01\x00", "\x03", "\x03\x00", "\x03\x01\x02\x03\x04\x05\x06\x07\x08\x00",
		"\x04", "\x04\x00\x00\x00\x00\x00\x00\x00\x00", "\x04" + strings.Repeat("\xff", 8), "\x06", "\x06\x00\x00", "\x06\x07", "\x06\x06",
		"\x05\x00\x01", "\x05\x00\x01\x00", "\x05\x00\x01\x07", "\x05a\x00\xff\x00\x01"} {
		refuse(t, full+behind, 65536, api.ErrLong)
	}
	// Of a text it is met where the text ends, so that what is wrong within is met first.
	refuse(t, full+"\x05", 65537, api.ErrShort)
	refuse(t, full+"\x05a", 65538, api.ErrShort)
	refuse(t, full+"\x05\x00", 65538, api.ErrShort)
	refuse(t, full+"\x05\x00\x02\x00\x01", 65538, api.ErrForm)
	refuse(t, full+"\x07", 65536, api.ErrForm)
	refuse(t, full, 65536, api.ErrShort)

	room := full[:65536-3] // room for a value of the size 3
	refuse(t, room+"\x05abc\x00\x01", 65533, api.ErrLong)
	refuse(t, room+"\x05\x00\xff\x00\xff\x00\xff\x00\x01", 65533, api.ErrLong)
	refuse(t, room+"\x06\x01\x06\x01", 65536, api.ErrLong)
	refuse(t, room+"\x05a\x00\x01\x06\x06", 65538, api.ErrLong)
	refuse(t, room+"\x05ab\x00\x01\x05\x00\x01", 65538, api.ErrLong)
	for _, inner := range []string{"\x05ab\x00\x01", "\x05\x00\xff\xff\x00\x01", "\x06\x01\x01\x00", "\x05\x00\x01\x05a\x00\x01", "\x06\x00\x01\x06\x00"} {
		if v, n, err := value.Read([]byte(room + inner + "\x00")); value.Size(v) != 65536 || n != 65533+len(inner)+1 || err != api.OK {
			t.Errorf("P4.4: a list of the size 65,536 with %x: %d, %d, %d", inner, value.Size(v), n, err)
		}
	}
}

func TestReadOfTooLongTexts(t *testing.T) {
	for _, n := range []int{65536, 65537, 1 << 20} {
		s := strings.Repeat("x", n)
		refuse(t, "\x05"+s+"\x00\x01", 0, api.ErrLong)
		refuse(t, "\x05"+s+"\x00\x01\x07", 0, api.ErrLong)
		refuse(t, "\x05"+s, n+1, api.ErrShort)
		refuse(t, "\x05"+s+"\x00", n+2, api.ErrShort)
		refuse(t, "\x05"+s+"\x00\x07\x00\x01", n+2, api.ErrForm)
		refuse(t, "\x06\x01\x05"+s+"\x00\x01", 2, api.ErrLong)
	}
	refuse(t, "\x05"+strings.Repeat("\x00\xff", 65536)+"\x00\x01", 0, api.ErrLong)
	refuse(t, "\x06\x05"+strings.Repeat("x", 65535)+"\x00\x01", 1, api.ErrLong)
}

// shortStrings are all strings of up to n bytes out of some.
func shortStrings(n int, some []byte) [][]byte {
	level := [][]byte{{}}
	all := slices.Clone(level)
	for range n {
		var longer [][]byte
		for _, b := range level {
			for _, c := range some {
				longer = append(longer, append(slices.Clone(b), c))
			}
		}
		all = append(all, longer...)
		level = longer
	}
	return all
}

// No VReal is among them: so each byte is right or wrong where it stands.
func TestReadOfAnyBytes(t *testing.T) {
	some := []byte{0, 1, 2, 5, 6, 7, 0xff}
	read := 0
	for _, b := range shortStrings(6, some) {
		v, at, err := value.Read(b)
		switch err {
		case api.OK:
			read++
			if k := keyOf(t, v); !bytes.Equal(k, b[:at]) {
				t.Fatalf("what follows: %x is read as %v, whose key is %x", b, v, k)
			}
		case api.ErrForm:
			refuse(t, string(b[:at]), at, api.ErrShort)
			refuse(t, string(b[:at+1]), at, api.ErrForm)
		case api.ErrShort:
			if at != len(b) || !goesOn(b, some) {
				t.Fatalf("P4.4: Read(%x): ErrShort at %d", b, at)
			}
		default:
			t.Fatalf("P4.4: Read(%x): %d", b, err)
		}
		if err != api.OK && !equal(v, api.Value{}) {
			t.Fatalf("P4.4: Read(%x): an error, and %v", b, v)
		}
	}
	if read < 1000 {
		t.Errorf("only %d strings were keys", read)
	}
}

// goesOn tells whether one of some bytes can stand behind b.
func goesOn(b, some []byte) bool {
	for _, c := range some {
		if _, _, err := value.Read(append(slices.Clone(b), c)); err != api.ErrForm {
			return true
		}
	}
	return false
}

func TestReadIsNewMemory(t *testing.T) {
	build := func() api.Value {
		return list(none(), list(text("a\x00b"), list()), list(whole(1), text("cd")), text(""))
	}
	k := keyOf(t, build())
	b := append(bytes.Clone(k), "spare"...)
	v, _, _ := value.Read(b[:len(k)])
	again, _, _ := value.Read(b[:len(k)])
	if !bytes.Equal(b[:len(k)], k) || string(b[len(k):]) != "spare" {
		t.Errorf("P4.5: what was handed in was changed: %x", b)
	}
	clear(b)
	if !equal(v, build()) || !equal(again, build()) {
		t.Errorf("P4.5: what was handed in, written over, changed the values: %v, %v", v, again)
	}
	overwrite(v.List[1])
	if want := build(); !equal(v.List[2], want.List[2]) || !equal(again, want) {
		t.Errorf("P4.5: lists of one value, or two values, share memory: %v, %v", v.List[2], again)
	}
}
