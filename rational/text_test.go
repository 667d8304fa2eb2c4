package rational_test

import (
	"math"
	"math/big"
	"regexp"
	"strconv"
	"strings"
	"testing"

	"robuststats/api"
	"robuststats/rational"
)

// P3.4

func TestFormat(t *testing.T) {
	for _, x := range all() {
		if got, want := rational.Format(x), toBig(x).RatString(); got != want {
			t.Errorf("%v: %s, not %s", x, got, want)
		}
	}
	for _, x := range []struct {
		x    api.Rat
		want string
	}{{api.Rat{}, "0"}, {over(minus(3), 4), "-3/4"}, {over(plus(3), 4), "3/4"}, {over(minus(12)), "-12"}, {over(plus(1), 0, 1), "1/4294967296"}, {over(plus(6), 4), "0"}} {
		if got := rational.Format(x.x); got != x.want {
			t.Errorf("%v: %s", x.x, got)
		}
	}
}

func TestFormatIsReadBack(t *testing.T) {
	for _, x := range samples() {
		if got := mustParse(t, rational.Format(x)); !equal(got, x) {
			t.Errorf("%v is read as %v", x, got)
		}
	}
	nines := strings.Repeat("9", api.MaxDigits)
	for _, s := range []string{nines, "-" + nines, "1/" + nines, "-1" + strings.Repeat("0", api.MaxDigits-1) + "/" + nines} {
		if got := rational.Format(mustParse(t, s)); got != s {
			t.Errorf("%.20s is written as %.20s", s, got)
		}
	}
	x := mustParse(t, nines)
	if got := rational.Format(rational.Mul(x, rational.FromInt(10))); got != nines+"0" {
		t.Errorf("beyond MaxDigits: %d digits", len(got))
	}
}

func TestParse(t *testing.T) {
	zeros := strings.Repeat("0", 40)
	for s, want := range map[string]string{
		"0": "0", "-0": "0", "7": "7", "-7": "-7", "4294967296": "4294967296",
		"6/4": "3/2", "-6/4": "-3/2", "0/5": "0", "-0/3": "0", "8/4": "2", "-8/1": "-8", "1/4294967296": "1/4294967296", "10/20": "1/2",
		"1.25": "5/4", "-0.5": "-1/2", "0.0": "0", "-0.00": "0", "10.0010": "10001/1000", "0.05": "1/20", "-0.0050": "-1/200", "3.0": "3", "0.10203": "10203/100000", "12345678901234567890.5": "24691357802469135781/2",
		"1e3": "1000", "1E3": "1000", "12e-1": "6/5", "12E-1": "6/5", "1e0": "1", "1e-0": "1", "-5e0": "-5", "0e40": "0", "-0e-40": "0", "1e40": "1" + zeros, "1e-40": "1/1" + zeros, "-1E40": "-1" + zeros, "7e10": "70000000000", "7e-9": "7/1000000000",
		"1.250e-1": "1/8", "-2.5e1": "-25", "2.5E1": "25", "0.05e2": "5", "0.05e1": "1/2", "0.0e-5": "0", "1.5e-40": "3/2" + zeros, "1.5e40": "15" + zeros[1:], "-0.001e3": "-1",
	} {
		x, ok := rational.Parse(s)
		if !ok || !rational.Valid(x) || rational.Format(x) != want {
			t.Errorf("%s: %v %s", s, ok, rational.Format(x))
		}
	}
	for power := range 41 {
		for _, letter := range []string{"e", "E", "e-", "E-"} {
			s := "123.405" + letter + strconv.Itoa(power)
			want, _ := new(big.Rat).SetString(s)
			same(t, s, mustParse(t, s), want)
		}
	}
}

func TestParseLength(t *testing.T) {
	nines, zeros := strings.Repeat("9", api.MaxDigits), strings.Repeat("0", api.MaxDigits)
	for _, s := range []string{
		nines, "-" + nines, nines + "e40", nines + "E-40", "-" + nines + "e-40", nines + "/7", "-7/" + nines, nines + "/1" + zeros[1:],
		nines[1:] + ".5", "-" + nines[1:] + ".5", nines[1:] + ".5e-40", "0." + nines[1:], "0." + nines[1:] + "e40", "0." + nines[1:] + "e-40", "-9." + nines[1:], nines[:2000] + "." + nines[2000:], "0." + zeros[2:] + "1", "0." + zeros[2:] + "1e-40",
	} {
		want, _ := new(big.Rat).SetString(s)
		same(t, s[:10], mustParse(t, s), want)
	}
	same(t, "zeros behind the point", mustParse(t, "1."+zeros[1:]), big.NewRat(1, 1))
	same(t, "zeros only", mustParse(t, "-0."+zeros[1:]), new(big.Rat))
	for _, s := range []string{
		nines + "9", "-" + nines + "9", nines + "9e-1", nines + "9/7", "7/" + nines + "9", "-7/" + nines + "9", "1/1" + zeros, nines + ".5", nines + ".0", "-" + nines + ".5", nines + ".5e1",
		"0." + nines, "0." + zeros, "1." + zeros, "-1." + zeros, "0." + zeros + "e40", "0." + zeros[1:] + "1", nines[:2000] + "." + nines[2000:] + "9", "0." + nines + nines, "1e" + zeros, "1e" + nines, "1e" + nines + "9", "1e-" + nines,
	} {
		checkRejected(t, s)
	}
}

func TestParseRejects(t *testing.T) {
	for _, s := range []string{
		"", "-", "--", "--1", "---1", "+", "+1", "+0", "-+1", "+-1", "00", "01", "-00", "-01", "007",
		"/", "1/", "/2", "-/2", "1/0", "-1/0", "0/0", "1/00", "1/-2", "-1/-2", "1/+2", "1/02", "01/2", "1/2/3", "1//2", "1/2/", "/1/2", "+1/2", "1 /2", "1/ 2", "--1/2", "1/-0",
		".", "1.", ".5", "-.5", "-1.", "1..5", "1.5.2", "01.5", "00.5", "1.-5", "0.-5", "0.+5", "0.5-", "-1.-5", "1. 5", "1,5", "--1.5", "0.5x", "0.x5", "0x.5", "1.\u0665", "0.0x", "0.0-", "0.-0", "0.-", "0. ",
		"e", "E", "e3", "-e3", "1e", "-1e", "1E", "1e-", "1e+3", "1e+", "1e--3", "1e03", "1e-03", "1e00", "1e41", "1e-41", "1E41", "1e99", "1e400", "1e4294967296", "1e18446744073709551616", "1e18446744073709551617", "1e9223372036854775808", "1e99999999999999999999", "0e41", "0e-41", "0.0e41",
		"1e3.5", "1e3e3", "1ee3", "1eE3", "1e3E", "1.e3", ".e3", "1.5e", "1.5e03", "1e3/2", "1/2e3", "1/2e0", "1.5/2", "1/2.5", "1/2.0", "1.5e1/2", "e/2", "1/e", "1e/2",
		" ", " 1", "1 ", "\t1", "1\n", "-1 ", "- 1", "1 e3", "1e 3", "0x1", "0b1", "0o1", "1_000", "1f", "1p3", "0x1p3", "NaN", "nan", "Inf", "-Inf", "inf", "ten", "\u22121", "\u0661", "1\u0662", "\uff11", "1\u204423", "\xff", "1\xff", "\x00", "1\x00", "-\x00", "1/\x00", "0.\x00",
		"1/2-", "-1-", "1-1", "1e3-", "1e1-1", "1e-1-1", "(1)", "1%", "$1", "1'000",
	} {
		checkRejected(t, s)
	}
	for c := range 256 {
		if c >= '0' && c <= '9' {
			continue
		}
		other := string([]byte{byte(c)})
		for _, s := range []string{other, "1" + other, "12/34" + other + "5", "0." + other, "0." + other + "5", "0.5" + other, "1e2" + other + "3", "1.5e" + other, other + other + "1"} {
			checkRejected(t, s)
		}
		if c != 'e' && c != 'E' {
			checkRejected(t, "1.2"+other+"5")
		}
	}
}

func checkRejected(t *testing.T, s string) {
	t.Helper()
	if x, ok := rational.Parse(s); ok || !equal(x, api.Rat{}) {
		t.Errorf("%.40q is read as %.40s, %v", s, rational.Format(x), ok)
	}
}

// TestParseAllShortStrings compares Parse with the grammar of P3.4, written as a regular expression, for every string of up to 6 of these bytes.
func TestParseAllShortStrings(t *testing.T) {
	const alphabet = "014-./eE+"
	grammar := regexp.MustCompile(`^-?(0|[1-9][0-9]*)(/[1-9][0-9]*|(\.[0-9]+)?([eE]-?(0|[1-9]|[123][0-9]|40))?)$`)
	level := []string{""}
	for range 6 {
		var next []string
		for _, s := range level {
			for i := range len(alphabet) {
				next = append(next, s+alphabet[i:i+1])
			}
		}
		level = next
		for _, s := range level {
			x, ok := rational.Parse(s)
			if ok != grammar.MatchString(s) {
				t.Fatalf("%q: %v", s, ok)
			}
			if !ok {
				if !equal(x, api.Rat{}) {
					t.Fatalf("%q: %v and false", s, x)
				}
				continue
			}
			if want, _ := new(big.Rat).SetString(s); !equal(x, fromBig(want)) {
				t.Fatalf("%q: %v", s, x)
			}
		}
	}
}

// P3.5

var decimalForm = regexp.MustCompile(`^-?(0|[1-9][0-9]*)(\.[0-9]+)?$`)

// checkDecimal checks the properties of P3.5.
func checkDecimal(t *testing.T, x api.Rat, digits int) {
	t.Helper()
	got := rational.Decimal(x, digits)
	whole, behind, cut := strings.Cut(got, ".")
	if !decimalForm.MatchString(got) || len(behind) != digits || cut != (digits > 0) {
		t.Errorf("%v with %d digits: %q", x, digits, got)
		return
	}
	value, _ := new(big.Rat).SetString(got)
	if strings.HasPrefix(whole, "-") != (value.Sign() < 0) || value.Sign()*toBig(x).Sign() < 0 {
		t.Errorf("%v with %d digits: %q has the wrong sign", x, digits, got)
	}
	scale := new(big.Rat).SetInt(new(big.Int).Exp(big.NewInt(10), big.NewInt(int64(digits)), nil))
	distance := new(big.Rat).Sub(value, toBig(x))
	distance.Abs(distance).Mul(distance, scale)
	switch distance.Cmp(big.NewRat(1, 2)) {
	case 1:
		t.Errorf("%v with %d digits: %q is too far away", x, digits, got)
	case 0:
		if last := got[len(got)-1] - '0'; last%2 != 0 {
			t.Errorf("%v with %d digits: %q is a tie with an odd digit", x, digits, got)
		}
	}
}

func TestDecimal(t *testing.T) {
	for _, x := range all() {
		for _, digits := range []int{0, 1, 2, 3, 9, 10, 11, 40, 99, 100} {
			checkDecimal(t, x, digits)
		}
	}
	for num := int64(-450); num <= 450; num++ {
		for _, den := range []int64{1, 2, 3, 4, 7, 8, 16, 20, 40, 200, 400, 1000, 2000} {
			for digits := range 5 {
				checkDecimal(t, fromBig(big.NewRat(num, den)), digits)
			}
		}
	}
}

// TestDecimalTies has ties at every number of digits, for even and for odd digits before them, and numbers just beside them.
func TestDecimalTies(t *testing.T) {
	beside := new(big.Rat).SetFrac(big.NewInt(1), new(big.Int).Exp(big.NewInt(10), big.NewInt(150), nil))
	for digits := range 101 {
		unit := new(big.Rat).SetFrac(big.NewInt(1), new(big.Int).Exp(big.NewInt(10), big.NewInt(int64(digits)), nil))
		for _, halves := range []int64{-21, -19, -5, -3, -1, 1, 3, 5, 7, 9, 19, 199, 1<<40 + 1, 1<<40 - 1} {
			tie := new(big.Rat).Mul(unit, big.NewRat(halves, 2))
			checkDecimal(t, fromBig(tie), digits)
			checkDecimal(t, fromBig(new(big.Rat).Add(tie, beside)), digits)
			checkDecimal(t, fromBig(new(big.Rat).Sub(tie, beside)), digits)
		}
	}
}

func TestDecimalExamples(t *testing.T) {
	for _, x := range []struct {
		s      string
		digits int
		want   string
	}{
		{"1/8", 2, "0.12"}, {"3/8", 2, "0.38"}, {"-1/8", 2, "-0.12"}, {"-3/8", 2, "-0.38"}, {"1/8", 3, "0.125"}, {"1/8", 4, "0.1250"}, {"1/3", 5, "0.33333"}, {"2/3", 5, "0.66667"}, {"-2/3", 5, "-0.66667"}, {"1/3", 0, "0"}, {"2/3", 0, "1"},
		{"1/2", 0, "0"}, {"3/2", 0, "2"}, {"5/2", 0, "2"}, {"7/2", 0, "4"}, {"-1/2", 0, "0"}, {"-3/2", 0, "-2"}, {"-5/2", 0, "-2"}, {"21/2", 0, "10"}, {"19/2", 0, "10"},
		{"-1/1000", 2, "0.00"}, {"-1/200", 2, "0.00"}, {"-1/199", 2, "-0.01"}, {"-3/200", 2, "-0.02"}, {"-1/3", 0, "0"}, {"-1e-40", 39, "0." + strings.Repeat("0", 39)}, {"-1e-40", 40, "-0." + strings.Repeat("0", 39) + "1"},
		{"0", 0, "0"}, {"0", 1, "0.0"}, {"0", 3, "0.000"}, {"1/100", 1, "0.0"}, {"1/100", 2, "0.01"}, {"1/1000", 3, "0.001"}, {"123/1000", 3, "0.123"}, {"12345/1000", 2, "12.34"}, {"12355/1000", 2, "12.36"},
		{"999/1000", 2, "1.00"}, {"-995/1000", 2, "-1.00"}, {"985/1000", 2, "0.98"}, {"99999/1000", 1, "100.0"}, {"12345", 0, "12345"}, {"-1234", 1, "-1234.0"}, {"1e40", 1, "1" + strings.Repeat("0", 40) + ".0"},
		{"1", 100, "1." + strings.Repeat("0", 100)}, {"-1/3", 100, "-0." + strings.Repeat("3", 100)}, {"2/3", 99, "0." + strings.Repeat("6", 98) + "7"}, {"1e-40", 100, "0." + strings.Repeat("0", 39) + "1" + strings.Repeat("0", 60)},
	} {
		if got := rational.Decimal(mustParse(t, x.s), x.digits); got != x.want {
			t.Errorf("%s, %d: %s", x.s, x.digits, got)
		}
	}
}

func TestDecimalOutside(t *testing.T) {
	for _, x := range all() {
		for _, digits := range []int{-1, -2, -100, math.MinInt, 101, 102, 1000, math.MaxInt} {
			if got := rational.Decimal(x, digits); got != "" {
				t.Errorf("%v, %d: %q", x, digits, got)
			}
		}
	}
}
