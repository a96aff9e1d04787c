package real_test

import (
	"math"
	"strconv"
	"strings"
	"testing"

	"flume/api"
	"flume/real"
)

func TestTextExamples(t *testing.T) {
	for _, c := range []struct {
		bits uint64
		text string
	}{
		{bits(0.1), "0.1"}, {bits(1e21), "1e+21"}, {minus, "-0"}, {0, "0"},
		{infinite, "inf"}, {minus | infinite, "-inf"}, {canonical, "nan"},
		{bits(1), "1"}, {bits(-1.5), "-1.5"}, {bits(123456), "123456"}, {bits(1e6), "1e+06"},
		{bits(1234567), "1.234567e+06"}, {bits(0.0001), "0.0001"}, {bits(0.00001), "1e-05"},
		{bits(1e20), "1e+20"}, {bits(100000), "100000"}, {bits(1.0 / 3), "0.3333333333333333"},
		{leastSize, "5e-324"}, {minus | leastSize, "-5e-324"},
		{lastSubnormal, "2.225073858507201e-308"}, {firstNormal, "2.2250738585072014e-308"},
		{greatestFinite, "1.7976931348623157e+308"}, {minus | greatestFinite, "-1.7976931348623157e+308"},
	} {
		if got := real.Text(from(c.bits)); got != c.text {
			t.Errorf("Text of the bits %016x is %q, not %q", c.bits, got, c.text)
		}
		if x, err := real.Read(c.text); bits(x) != c.bits || err != api.OK {
			t.Errorf("Read(%q) is %v, %d", c.text, x, err)
		}
	}
}

func TestTextOfNaNs(t *testing.T) {
	for _, x := range odds() {
		if got := real.Text(x); got != "nan" {
			t.Errorf("Text of the NaN %016x is %q", bits(x), got)
		}
	}
}

func TestReadTurnsTextRound(t *testing.T) {
	xs, _ := ordered()
	for _, x := range append(xs, anyNumbers(11, 3000)...) {
		s := real.Text(x)
		got, err := real.Read(s)
		if bits(got) != bits(real.Canon(x)) || err != api.OK {
			t.Fatalf("Read(%q) is %v, %d", s, got, err)
		}
		if x == x && !math.IsInf(x, 0) && s != strconv.FormatFloat(x, 'g', -1, 64) {
			t.Fatalf("Text(%v) is %q", x, s)
		}
	}
}

func TestReadOfOtherTexts(t *testing.T) {
	for _, s := range []string{
		"", " ", "-", "+", ".", "e", "1.0", "+1", "1e0", "1e21", "1E+21", "1e+021", "01", "-01", "1.", ".5", "-.5", "00", "+0", "0.0", "-0.0", "0e0",
		"NaN", "NAN", "+nan", "-nan", "nan ", "nans", "Inf", "+inf", "+Inf", "-Inf", "INF", "infinity", "-infinity", "--inf",
		"1_0", "0x1p0", "0x1p-2", "0b1", "1e400", "-1e400", "1e-400", "-1e-400", "1e+400", "2e-324", "4e-324",
		" 1", "1 ", "1\n", "\x001", "1\x00", "1,5", "1;", "one", "é", "\xff", "１",
		"0.10", "0.10000000000000001", "1000000", "0.00001", "1e-5", "1e5", "1e+05", "10e+20", "1.7976931348623159e+308", "1.7976931348623157e308",
		"2.2250738585072011e-308", "123456789", "0.30000000000000000", "1p5", "1e+", "1e-",
	} {
		if x, err := real.Read(s); bits(x) != 0 || err != api.ErrNumber {
			t.Errorf("Read(%q) is %v, %d", s, x, err)
		}
	}
}

func TestReadOfLongTexts(t *testing.T) {
	const n = 1 << 20
	for _, s := range []string{
		strings.Repeat("1", n), strings.Repeat("0", n), "0." + strings.Repeat("0", n) + "1", "1" + strings.Repeat("0", n) + "e-1048576",
		"1e" + strings.Repeat("9", n), "1e-" + strings.Repeat("9", n), strings.Repeat("-", n), strings.Repeat("\x80", n),
	} {
		if x, err := real.Read(s); bits(x) != 0 || err != api.ErrNumber {
			t.Errorf("Read of a long text is %v, %d", x, err)
		}
	}
}
