package tests

import (
	"math/big"
	"regexp"
	"strconv"
	"strings"
	"testing"

	"loop.example/g00032/impl"
)

type textCase struct {
	bits int64
	text string
}

func shownTexts() []textCase {
	return []textCase{
		{impl.NaNBits, "nan"}, {infinity, "inf"}, {minusInfinity, "-inf"}, {0, "0p0"}, {signBit, "-0p0"},
		{one, "1p0"}, {minusOne, "-1p0"}, {bitsOf(0.5), "1p-1"}, {bitsOf(-0.75), "-3p-2"}, {bitsOf(2), "1p1"}, {bitsOf(3), "3p0"}, {bitsOf(10), "5p1"}, {bitsOf(1000), "125p3"}, {bitsOf(0x1p10), "1p10"},
		{bitsOf(0.1), "3602879701896397p-55"}, {one + 1, "4503599627370497p-52"}, {one - 1, "9007199254740991p-53"},
		{1, "1p-1074"}, {signBit | 1, "-1p-1074"}, {2, "1p-1073"}, {3, "3p-1074"}, {1 << 51, "1p-1023"}, {1<<52 - 1, "4503599627370495p-1074"}, {1 << 52, "1p-1022"}, {1<<52 + 1, "4503599627370497p-1074"}, {2<<52 + 1, "4503599627370497p-1073"},
		{lastOne, "9007199254740991p971"}, {signBit | lastOne, "-9007199254740991p971"}, {2046 << 52, "1p1023"}, {bitsOf(0x1p52), "1p52"}, {bitsOf(0x1p53 - 1), "9007199254740991p0"},
	}
}

func TestShowFloat(t *testing.T) {
	for _, c := range shownTexts() {
		if s := impl.ShowFloat(c.bits); s != c.text {
			t.Errorf("ShowFloat(%d): %q, not %q", c.bits, s, c.text)
		}
	}
	for _, none := range []int64{quiet, loud, -1, maxLong, signBit | impl.NaNBits, signBit | loud} {
		if s := impl.ShowFloat(none); s != "nan" {
			t.Errorf("ShowFloat(%d): %q", none, s)
		}
	}
}

func TestReadFloat(t *testing.T) {
	for _, c := range shownTexts() {
		if bits, ok := impl.ReadFloat(c.text); bits != c.bits || !ok {
			t.Errorf("ReadFloat(%q): %d %v, not %d", c.text, bits, ok, c.bits)
		}
	}
}

func TestReadFloatOfOtherTexts(t *testing.T) {
	long := strings.Repeat("9", 100000)
	for _, s := range []string{
		"", " ", "-", "p", "-p", "p0", "1p", "1", "1p-", "1p+", "-1", "--1p0", "-p0", "1pp0", "1p0p0", "1-p0",
		"2p0", "10p1", "9007199254740992p0", "-4p-2", "0p1", "0p-1", "-0p1", "00p0", "0p00", "0p-0", "-0p-0", "0", "-0",
		"01p0", "001p0", "-01p0", "1p00", "1p01", "1p-01", "1p-0", "+1p0", "1p+0", "1p+1", "+nan", "-nan", "+inf", "Inf", "NaN", "infinity", "-infinity",
		"1p1024", "-1p1024", "3p1023", "1p-1075", "3p-1075", "9007199254740993p0", "9007199254740993p-1", "9007199254740991p972", "18014398509481985p0", "4503599627370495p-1075", "1p32768", "1p-32769", "1p65536", "1p9223372036854775808", "1p18446744073709551616",
		"18446744073709551617p0", "9223372036854775809p0",
		"1p0 ", " 1p0", "1p0\n", "1 p0", "1p 0", "1p0x", "nan ", "inf0", "-inf-", "nanp0", "infp0", "1p0\x00", "\x001p0", "1P0", "0x1p0", "1_1p0", "1p1_0", "1.0p0", "1p0.0", "1e0", "1p0;",
		"\xff", "1p\xff", "\xc3\xa9p0", "\u0661p0", "1p\u0661", "\u22121p0", "1p\u22121",
		long, long + "p0", "1p" + long, "1p-" + long, "-" + long + "p-" + long, strings.Repeat("0", 100000) + "1p0", "1p" + strings.Repeat("0", 100000), strings.Repeat("-", 100000), strings.Repeat("p", 100000), "1p0" + strings.Repeat(" ", 100000),
	} {
		if bits, ok := impl.ReadFloat(s); bits != 0 || ok {
			t.Errorf("ReadFloat(%.40q): %d %v", s, bits, ok)
		}
	}
}

var floatText = regexp.MustCompile(`^(-?)([1-9][0-9]*)p(0|-?[1-9][0-9]*)$`)

// readOracle is what ReadFloat has to answer: a number m in front that is odd, and a value that some float has.
func readOracle(s string) (int64, bool) {
	for _, c := range shownTexts()[:5] {
		if s == c.text {
			return c.bits, true
		}
	}
	part := floatText.FindStringSubmatch(s)
	if part == nil {
		return 0, false
	}
	m, _ := new(big.Int).SetString(part[2], 10)
	k, err := strconv.ParseInt(part[3], 10, 64)
	if err != nil || k < -2000 || k > 2000 || m.Bit(0) == 0 {
		return 0, false
	}
	v := new(big.Rat).Mul(new(big.Rat).SetInt(m), power(k))
	bits := rounded(v, 0)
	if isInfinite(bits) || exact(bits).Cmp(v) != 0 {
		return 0, false
	}
	if part[1] == "-" {
		bits |= signBit
	}
	return bits, true
}

func testFloatText(t *testing.T, bits int64) string {
	t.Helper()
	s := impl.ShowFloat(bits)
	if isNone(bits) {
		bits = impl.NaNBits
	}
	if back, ok := impl.ReadFloat(s); back != bits || !ok {
		t.Errorf("ReadFloat(%q): %d %v, not %d", s, back, ok, bits)
	}
	if want, ok := readOracle(s); want != bits || !ok {
		t.Errorf("ShowFloat(%d): %q, which is %d %v", bits, s, want, ok)
	}
	return s
}

func TestFloatsComeBackFromTheirTexts(t *testing.T) {
	for _, bits := range edgeFloats() {
		testFloatText(t, bits)
	}
	for shift := range 63 {
		testFloatText(t, 1<<shift)
		testFloatText(t, signBit|1<<shift-1)
	}
	for e := range int64(2048) {
		testFloatText(t, e<<52)
		testFloatText(t, e<<52|1<<52-1)
	}
	row := numbers{3}
	for range 20000 {
		testFloatText(t, row.next())
	}
}

// Each text that lies beside one that is shown is read as it must be, or not at all.
func TestReadFloatBesideShownTexts(t *testing.T) {
	for _, c := range shownTexts() {
		for i := range len(c.text) + 1 {
			head, tail := c.text[:i], c.text[i:]
			testRead(t, head)
			testRead(t, tail)
			for _, ch := range []string{"0", "1", "2", "3", "9", "-", "+", "p", "n", "i", " ", "_"} {
				testRead(t, head+ch+tail)
				if tail != "" {
					testRead(t, head+ch+tail[1:])
				}
			}
			if tail != "" {
				testRead(t, head+tail[1:])
			}
		}
	}
}

// The values around the bounds of floats, with each odd number of some widths in front.
func TestReadFloatAtTheBounds(t *testing.T) {
	for _, width := range []int64{1, 2, 3, 51, 52, 53, 54, 63, 64, 65} {
		for _, top := range []int64{-1076, -1075, -1074, -1073, -1023, -1022, -1021, 0, 1022, 1023, 1024} {
			for _, low := range []int64{1, 3} {
				m := new(big.Int).Lsh(big.NewInt(1), uint(width-1))
				m.Or(m, big.NewInt(low))
				s := m.String() + "p" + strconv.FormatInt(top-width+1, 10)
				testRead(t, s)
				testRead(t, "-"+s)
			}
		}
	}
}

func testRead(t *testing.T, s string) {
	t.Helper()
	want, wantOk := readOracle(s)
	if bits, ok := impl.ReadFloat(s); bits != want || ok != wantOk {
		t.Errorf("ReadFloat(%q): %d %v, not %d %v", s, bits, ok, want, wantOk)
	}
}
