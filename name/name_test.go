package name_test

import (
	"fmt"
	"math"
	"math/rand"
	"regexp"
	"strings"
	"testing"

	"flume/api"
	"flume/name"
)

// What names are is worked out here by the library and the document's words, not by the program itself.

var (
	filePattern    = regexp.MustCompile(`\A[a-z0-9]([a-z0-9.-]{0,62}[a-z0-9])?\z`)
	segmentPattern = regexp.MustCompile(`\Aseg-[0-7][0-9a-f]{15}\.log\z`)
)

const noSegment = "seg-0000000000000000.log"

func plainMay(s string) bool { return filePattern.MatchString(s) }

// plainNumber tells which number's name s is; 0 of no segment's.
func plainNumber(s string) (num int64) {
	if segmentPattern.MatchString(s) {
		fmt.Sscanf(s, "seg-%x.log", &num)
	}
	return
}

func plainKind(s string) int {
	switch {
	case !plainMay(s):
		return 0
	case plainNumber(s) != 0:
		return 1
	case s == "catalog":
		return 2
	case s == "catalog-next", s == "segment-next":
		return 3
	}
	return 4
}

// check holds what is told of one text against the plain words; it gives its kind.
func check(t *testing.T, s string) int {
	t.Helper()
	if got, want := name.May(s), plainMay(s); got != want {
		t.Errorf("P8.1: May(%q) is %v", s, got)
	}
	num, ok := name.Number(s)
	if want := plainNumber(s); num != want || ok != (want != 0) {
		t.Errorf("P8.1: Number(%q): %d, %v, want %d", s, num, ok, want)
	}
	if ok {
		if back, err := name.Segment(num); back != s || err != api.OK {
			t.Errorf("P8.1: %q has the number %d, whose name is %q, %d", s, num, back, err)
		}
	}
	kind := name.Kind(s)
	if want := plainKind(s); kind != want {
		t.Errorf("P8.2: Kind(%q) is %d, want %d", s, kind, want)
	}
	return kind
}

func wantKind(t *testing.T, s string, want int) {
	t.Helper()
	if got := check(t, s); got != want {
		t.Errorf("P8.2: Kind(%q) is %d, want %d", s, got, want)
	}
}

func wantMay(t *testing.T, what, s string, want bool) {
	t.Helper()
	if check(t, s); name.May(s) != want {
		t.Errorf("P8.1: %s: May(%q) is %v", what, s, !want)
	}
}

func wantNoNumber(t *testing.T, what, s string) {
	t.Helper()
	check(t, s)
	if num, ok := name.Number(s); num != 0 || ok {
		t.Errorf("P8.1: %s: Number(%q): %d, %v", what, s, num, ok)
	}
}

func segment(t *testing.T, num int64) string {
	t.Helper()
	s, err := name.Segment(num)
	if err != api.OK {
		t.Fatalf("P8.1: Segment(%d): %q, %d", num, s, err)
	}
	return s
}

func TestExamples(t *testing.T) {
	if s := segment(t, 1); s != "seg-0000000000000001.log" {
		t.Errorf("P8.1: Segment(1) is %q", s)
	}
	if s := segment(t, 255); s != "seg-00000000000000ff.log" {
		t.Errorf("P8.1: Segment(255) is %q", s)
	}
	if s, err := name.Segment(0); s != "" || err != api.ErrArg {
		t.Errorf("P8.1: Segment(0): %q, %d", s, err)
	}
	for _, s := range []string{"seg-00000000000000FF.log", "seg-8000000000000000.log", "seg-1.log"} {
		wantNoNumber(t, "an example", s)
	}
	for s, kind := range map[string]int{"catalog": 2, "catalog-next": 3, "a.b": 4, "-a": 0, "": 0} {
		wantKind(t, s, kind)
	}
	wantOrder(t, "an example", []string{"b", "a", "b", "B"}, "a", "b")
}

func TestLengths(t *testing.T) {
	for n := range 200 {
		wantMay(t, fmt.Sprint(n, " bytes"), strings.Repeat("a", n), n >= 1 && n <= 64)
		wantMay(t, fmt.Sprint(n, " digits"), strings.Repeat("7", n), n >= 1 && n <= 64)
	}
	for _, n := range []int{256, 256 + 1, 256 + 64, 1 << 16, 1<<16 + 1, 1 << 22} {
		wantMay(t, "a long one", strings.Repeat("a", n), false)
	}
	// Bytes are counted, not what they write.
	wantMay(t, "63 bytes of 21 signs", strings.Repeat("€", 21), false)
}

// Each byte there is, at each place of a name, and alone: the signs just below and above the letters and digits among them.
func TestEveryByteAtEveryPlace(t *testing.T) {
	for _, stem := range []string{"a", "ab", "abc", strings.Repeat("z", 64)} {
		for at := range len(stem) {
			for c := range 256 {
				b := []byte(stem)
				b[at] = byte(c)
				inner := at > 0 && at < len(stem)-1
				letter := c >= 'a' && c <= 'z' || c >= '0' && c <= '9'
				wantMay(t, "a byte", string(b), letter || inner && (c == '.' || c == '-'))
			}
		}
	}
}

func TestSignsNextToThoseThatMayBe(t *testing.T) {
	for _, c := range []string{"`", "{", "/", ":", ",", "A", "Z", "_", " ", "\x00", "\n", "\x7f", "\x80", "\xff", "é", "\uff41", "\uff10", "\u017f", "\u212a"} {
		for _, s := range []string{c, c + "a", "a" + c, "a" + c + "a"} {
			wantMay(t, "a sign that may not be", s, false)
		}
	}
	for _, c := range []string{"a", "z", "0", "9"} {
		for _, s := range []string{c, c + "a", "a" + c, "a" + c + "a"} {
			wantMay(t, "the last sign that may be", s, true)
		}
	}
}

func TestFirstAndLast(t *testing.T) {
	long := strings.Repeat("a", 63)
	for _, c := range []string{".", "-"} {
		for _, s := range []string{c, c + c, c + "a", "a" + c, c + "a" + c, c + long, long + c} {
			wantMay(t, "a first or last byte", s, false)
		}
		for _, s := range []string{"a" + c + "a", "0" + c + c + "9", "a.-." + c + "b", "a" + strings.Repeat(c, 62) + "a"} {
			wantMay(t, "an inner byte", s, true)
		}
	}
}

func TestSegmentNumbers(t *testing.T) {
	nums := []int64{1, 2, 9, 10, 15, 16, 17, 159, 160, 255, 256, 65535, math.MaxInt32, math.MaxUint32, 0x123456789abcdef, math.MaxInt64 - 1, math.MaxInt64}
	for i := range 63 {
		nums = append(nums, 1<<i, 1<<i|1, math.MaxInt64>>i)
	}
	r := rand.New(rand.NewSource(81))
	for range 2000 {
		nums = append(nums, 1+r.Int63()>>r.Intn(63))
	}
	for _, num := range nums {
		s := segment(t, num)
		if want := fmt.Sprintf("seg-%016x.log", num); s != want {
			t.Errorf("P8.1: Segment(%d) is %q, want %q", num, s, want)
		}
		if back, ok := name.Number(s); back != num || !ok {
			t.Errorf("what follows: Number(%q): %d, %v, want %d", s, back, ok, num)
		}
		wantKind(t, s, 1)
	}
}

func TestNumbersThatNoSegmentHas(t *testing.T) {
	for _, num := range []int64{0, -1, -2, -255, math.MinInt32, -math.MaxInt64, math.MinInt64} {
		if s, err := name.Segment(num); s != "" || err != api.ErrArg {
			t.Errorf("P8.1: Segment(%d): %q, %d", num, s, err)
		}
	}
}

func TestGreatestNumberAndThoseAbove(t *testing.T) {
	if num, ok := name.Number("seg-7fffffffffffffff.log"); num != math.MaxInt64 || !ok {
		t.Errorf("P8.1: the greatest: %d, %v", num, ok)
	}
	for _, digits := range []string{"0000000000000000", "8000000000000000", "8000000000000001", "9000000000000001", "a000000000000001", "ffffffffffffffff"} {
		s := "seg-" + digits + ".log"
		wantNoNumber(t, "a number that no segment has", s)
		wantKind(t, s, 4)
	}
}

func TestWrongDigits(t *testing.T) {
	for _, digits := range []string{
		"", "1", "000000000000001", "00000000000000001", "10000000000000001", "00000000000000000000000000000001",
		"00000000000000FF", "00000000000000Ff", "000000000000000A", "A000000000000001",
		"000000000000000g", "000000000000000`", "000000000000000/", "000000000000000:", "000000000000000@", "000000000000000G",
		"+000000000000001", "-000000000000001", " 000000000000001", "0x00000000000001", "0000_0000_0000_1", "00000000000000.1",
		"00000000000000é", "000000000000000\x00", "\uff100000000000001", "0000000000000\uff11",
	} {
		wantNoNumber(t, "wrong digits", "seg-"+digits+".log")
	}
}

func TestOtherWordsAheadAndBehind(t *testing.T) {
	const digits = "0000000000000001"
	for _, s := range []string{
		digits, "seg-" + digits, digits + ".log", "seg-.log", "seg-", ".log", "seg", "seg.log", "",
		"xseg-" + digits + ".log", "seg-" + digits + ".logx", "seg-" + digits + ".log.log", "seg-seg-" + digits + ".log",
		"Seg-" + digits + ".log", "SEG-" + digits + ".log", "seg-" + digits + ".LOG", "seg." + digits + ".log", "seg_" + digits + ".log",
		"seg-" + digits + "-log", "seg-" + digits + "log", "seg" + digits + ".log", "segment-" + digits + ".log", "cat-" + digits + ".log",
		" seg-" + digits + ".log", "seg-" + digits + ".log ", "seg-" + digits + ".log\n", "seg-" + digits + ".log\x00",
		"seg-" + digits + ".log" + strings.Repeat("a", 100), strings.Repeat("seg-"+digits+".log", 3),
	} {
		wantNoNumber(t, "other words", s)
	}
}

func TestNamesOfWhichThereIsOne(t *testing.T) {
	for _, one := range []struct {
		what, got, want string
		kind            int
	}{
		{"Catalog", name.Catalog(), "catalog", 2},
		{"NextCatalog", name.NextCatalog(), "catalog-next", 3},
		{"NextSegment", name.NextSegment(), "segment-next", 3},
	} {
		if one.got != one.want {
			t.Errorf("P8.1: %s() is %q, want %q", one.what, one.got, one.want)
		}
		wantMay(t, one.what, one.got, true)
		wantNoNumber(t, one.what, one.got)
		wantKind(t, one.got, one.kind)
	}
}

func TestKinds(t *testing.T) {
	for s, kind := range map[string]int{
		"seg-0000000000000001.log": 1, "seg-7fffffffffffffff.log": 1, "seg-0123456789abcdef.log": 1,
		"catalog": 2, "catalog-next": 3, "segment-next": 3,
		noSegment: 4, "seg-8000000000000000.log": 4, "seg-1.log": 4, "seg-00000000000000ff.lo": 4,
		"segment": 4, "next": 4, "catalog.next": 4, "catalog-nexts": 4, "next-catalog": 4, "catalog-next-next": 4, "a": 4, "0": 4,
		strings.Repeat("a", 64): 4, strings.Repeat("a", 65): 0,
		"seg-00000000000000FF.log": 0, "Catalog": 0, "catalog-": 0, "catalog ": 0, ".catalog": 0, "catalog-next.": 0, "Segment-next": 0, "segment next": 0, "\xff": 0,
	} {
		wantKind(t, s, kind)
	}
}

// apart gives all texts that are one byte away from s: one other, one less, one more.
func apart(s string) []string {
	var l []string
	for at := range len(s) + 1 {
		for c := range 256 {
			sign := string([]byte{byte(c)})
			l = append(l, s[:at]+sign+s[at:])
			if at < len(s) && s[at] != byte(c) {
				l = append(l, s[:at]+sign+s[at+1:])
			}
		}
		if at < len(s) {
			l = append(l, s[:at]+s[at+1:])
		}
	}
	return l
}

func TestOneByteAway(t *testing.T) {
	for _, s := range []string{"catalog", "catalog-next", "segment-next"} {
		for _, other := range apart(s) {
			if kind := check(t, other); kind != 0 && kind != 4 {
				t.Errorf("P8.2: %q, next to %q, is of the kind %d", other, s, kind)
			}
		}
	}
	for _, s := range []string{"seg-0000000000000001.log", "seg-7fffffffffffffff.log", "seg-0123456789abcdef.log", noSegment} {
		for _, other := range apart(s) {
			check(t, other)
		}
	}
}

func TestDrawnTexts(t *testing.T) {
	const signs = "aaaf09.-zgFA\xff"
	r := rand.New(rand.NewSource(82))
	for range 20000 {
		b := make([]byte, r.Intn(70))
		for i := range b {
			b[i] = signs[r.Intn(len(signs)-r.Intn(6))]
		}
		check(t, string(b))
		check(t, "seg-"+string(b)+".log")
	}
}
