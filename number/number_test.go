package number_test

import (
	"math"
	"math/big"
	"regexp"
	"slices"
	"strconv"
	"strings"
	"testing"

	"satchel/api"
	"satchel/number"
)

const (
	signBit  uint64 = 1 << 63
	infinity uint64 = 0x7ff0000000000000
	nan      uint64 = 0x7ff8000000000000
	greatest uint64 = infinity - 1
)

// scattered gives numbers that have nothing to do with each other, always the same ones.
func scattered(count int) []uint64 {
	var all []uint64
	n := uint64(1)
	for range count {
		n = n*6364136223846793005 + 1442695040888963407
		all = append(all, n^n>>29)
	}
	return all
}

// ints are numbers at the edges of the powers of two and of ten, and others.
func ints() []int64 {
	all := []int64{math.MaxInt64, math.MinInt64, math.MinInt64 + 1}
	for shift := range 63 {
		p := int64(1) << shift
		all = append(all, p, -p, p-1, 1-p, p+1, -p-1)
	}
	for p := int64(1); ; p *= 10 {
		all = append(all, p, -p, p-1, 1-p, p+1, -p-1, 9*(p/10), 3*(p/10))
		if p > math.MaxInt64/10 {
			break
		}
	}
	for n := range int64(1100) {
		all = append(all, n, -n)
	}
	for _, n := range scattered(3000) {
		all = append(all, int64(n), int64(n>>(n%64)))
	}
	return all
}

// digits writes n digit by digit.
func digits(n int64) string {
	var s []byte
	for rest := n; rest != 0; rest /= 10 {
		// The rest of a division has the sign of what is divided.
		digit := rest % 10
		s = append(s, byte('0'+max(digit, -digit)))
	}
	if n < 0 {
		s = append(s, '-')
	}
	slices.Reverse(s)
	return string(s)
}

// P5.1

func TestFormatInt(t *testing.T) {
	for _, n := range ints() {
		want := digits(n)
		if n == 0 {
			want = "0"
		}
		if s := number.FormatInt(n); s != want {
			t.Errorf("FormatInt(%d) = %q, want %q", n, s, want)
		}
	}
}

func TestFormatIntKnown(t *testing.T) {
	for n, want := range map[int64]string{
		0: "0", 7: "7", -7: "-7", 10: "10", -70: "-70", 1000000: "1000000",
		math.MaxInt64: "9223372036854775807", math.MinInt64: "-9223372036854775808",
	} {
		if s := number.FormatInt(n); s != want {
			t.Errorf("FormatInt(%d) = %q, want %q", n, s, want)
		}
	}
}

// P5.2

func wantInt(t *testing.T, s string, n int64, e api.Errno) {
	t.Helper()
	if got, f := number.ParseInt(s); got != n || f != e {
		t.Errorf("ParseInt(%.60q) = %d, %v, want %d, %v", s, got, f, n, e)
	}
}

func TestParseIntIsTheInverse(t *testing.T) {
	for _, n := range ints() {
		wantInt(t, number.FormatInt(n), n, api.OK)
	}
}

var intForm = regexp.MustCompile(`^(0|-?[1-9][0-9]*)\z`)

// wantIntModel holds ParseInt against the form as a pattern, and numbers of any size.
func wantIntModel(t *testing.T, s string) {
	t.Helper()
	if !intForm.MatchString(s) {
		wantInt(t, s, 0, api.ErrDigit)
		return
	}
	n, _ := new(big.Int).SetString(s, 10)
	if !n.IsInt64() {
		wantInt(t, s, 0, api.ErrRange)
		return
	}
	wantInt(t, s, n.Int64(), api.OK)
}

// overAlphabet gives all strings of up to length bytes of an alphabet.
func overAlphabet(alphabet string, length int) []string {
	all := []string{""}
	last := all
	for range length {
		var longer []string
		for _, s := range last {
			for i := range len(alphabet) {
				longer = append(longer, s+alphabet[i:i+1])
			}
		}
		all = append(all, longer...)
		last = longer
	}
	return all
}

func TestParseIntOfShortStrings(t *testing.T) {
	for _, s := range overAlphabet("-+0195 _.ex", 4) {
		wantIntModel(t, s)
	}
	for _, s := range overAlphabet("-012", 7) {
		wantIntModel(t, s)
	}
}

func TestParseIntOfEachByte(t *testing.T) {
	for c := range 256 {
		b := string([]byte{byte(c)})
		for _, s := range []string{b, b + "1", "1" + b, "-" + b, "-1" + b, "1" + b + "1", "0" + b, "-0" + b, b + "0"} {
			wantIntModel(t, s)
		}
	}
	for _, s := range []string{"٣", "１", "1\u00a0", "−1", "1\x00", "\x001"} {
		wantInt(t, s, 0, api.ErrDigit)
	}
}

func TestParseIntAtTheRange(t *testing.T) {
	for _, power := range []uint{31, 32, 62, 63, 64, 65, 66, 127, 128, 192, 1000} {
		edge := new(big.Int).Lsh(big.NewInt(1), power)
		for d := int64(-30); d <= 30; d++ {
			n := new(big.Int).Add(edge, big.NewInt(d)).String()
			wantIntModel(t, n)
			wantIntModel(t, "-"+n)
			wantIntModel(t, "0"+n)
			wantIntModel(t, "-0"+n)
			wantIntModel(t, "+"+n)
			wantIntModel(t, n+" ")
			wantIntModel(t, n+"0")
		}
	}
	for zeros := range 40 {
		for _, first := range []string{"1", "9", "-1", "-9", "5", "-5"} {
			wantIntModel(t, first+strings.Repeat("0", zeros))
			wantIntModel(t, first+strings.Repeat("9", zeros))
		}
	}
}

func TestParseIntOfLongStrings(t *testing.T) {
	for _, n := range []int{100, 70000, 3000000} {
		wantInt(t, strings.Repeat("9", n), 0, api.ErrRange)
		wantInt(t, "-1"+strings.Repeat("0", n), 0, api.ErrRange)
		wantInt(t, strings.Repeat("0", n), 0, api.ErrDigit)
		wantInt(t, strings.Repeat("0", n)+"1", 0, api.ErrDigit)
		wantInt(t, strings.Repeat("-", n), 0, api.ErrDigit)
		// The form is examined ahead of the size.
		wantInt(t, strings.Repeat("9", n)+"x", 0, api.ErrDigit)
	}
}

// P5.3

// fractions are bit patterns behind the exponent, their edges among them.
func fractions() []uint64 {
	all := []uint64{0, 1, 2, 3, 0xfffffffffffff, 0xffffffffffffe, 0x8000000000001, 0x123456789abcd, 0xfedcba9876543, 0xaaaaaaaaaaaaa, 0x00000deadbeef}
	for shift := range 52 {
		all = append(all, 1<<shift, 1<<shift-1, 0xfffffffffffff&^(1<<shift), 0xfffffffffffff>>shift<<shift)
	}
	return all
}

// floats are the bits of floats with all exponents, with and without a sign.
func floats() []uint64 {
	var all []uint64
	for exponent := range uint64(2048) {
		few := []uint64{0, 1, 0xfffffffffffff, 0x8000000000000, 0x0123456789ab0}
		if exponent < 3 || exponent > 2044 || exponent > 1020 && exponent < 1027 {
			few = fractions()
		}
		for _, f := range few {
			all = append(all, exponent<<52|f, signBit|exponent<<52|f)
		}
	}
	return append(all, scattered(5000)...)
}

// formOf rewrites what the library tells of a float.
func formOf(bits uint64) string {
	f := math.Float64frombits(bits)
	sign := ""
	if bits&signBit != 0 {
		sign = "-"
	}
	switch {
	case math.IsNaN(f):
		return "0xnan"
	case math.IsInf(f, 0):
		return sign + "0xinf"
	case f == 0:
		return sign + "0x0"
	}
	digits, exponent, _ := strings.Cut(strconv.FormatFloat(f, 'x', -1, 64), "p")
	n, err := strconv.Atoi(exponent)
	if err != nil {
		panic(err)
	}
	if n < 0 {
		return digits + "m" + strconv.Itoa(-n)
	}
	return digits + "p" + strconv.Itoa(n)
}

func TestFormatFloat(t *testing.T) {
	for _, b := range floats() {
		if s := number.FormatFloat(b); s != formOf(b) {
			t.Errorf("FormatFloat(%#x) = %q, want %q", b, s, formOf(b))
		}
	}
}

// knownFloats are forms written by hand.
func knownFloats() map[uint64]string {
	return map[uint64]string{
		0: "0x0", signBit: "-0x0", infinity: "0xinf", signBit | infinity: "-0xinf", nan: "0xnan",
		0x3ff0000000000000: "0x1p0", 0xbff0000000000000: "-0x1p0", 0x4000000000000000: "0x1p1",
		0x3ff8000000000000: "0x1.8p0", 0xbfd0000000000000: "-0x1m2", 0x3fe0000000000000: "0x1m1",
		0x3ff0000000000001: "0x1.0000000000001p0", 0x3ff0100000000000: "0x1.01p0", 0x3ffabcdef0000000: "0x1.abcdefp0",
		math.Float64bits(10): "0x1.4p3", math.Float64bits(-0.1): "-0x1.999999999999am4", math.Float64bits(1 << 60): "0x1p60",
		1: "0x1m1074", 2: "0x1m1073", 3: "0x1.8m1073", signBit | 5: "-0x1.4m1072", 0x000fffffffffffff: "0x1.ffffffffffffem1023",
		0x0008000000000000: "0x1m1023", 0x0008000000000001: "0x1.0000000000002m1023", 0x0010000000000000: "0x1m1022", 0x0010000000000001: "0x1.0000000000001m1022",
		greatest: "0x1.fffffffffffffp1023", signBit | greatest: "-0x1.fffffffffffffp1023", 0x7fe0000000000000: "0x1p1023",
	}
}

func TestFormatFloatKnown(t *testing.T) {
	for b, want := range knownFloats() {
		if s := number.FormatFloat(b); s != want {
			t.Errorf("FormatFloat(%#x) = %q, want %q", b, s, want)
		}
	}
}

func TestFormatFloatOfNaNs(t *testing.T) {
	for _, f := range fractions()[1:] {
		if f == 0 {
			continue
		}
		for _, b := range []uint64{infinity | f, signBit | infinity | f} {
			if s := number.FormatFloat(b); s != "0xnan" {
				t.Errorf("FormatFloat(%#x) = %q", b, s)
			}
		}
	}
}

// P5.4

func wantFloat(t *testing.T, s string, b uint64, e api.Errno) {
	t.Helper()
	if got, f := number.ParseFloat(s); got != b || f != e {
		t.Errorf("ParseFloat(%.60q) = %#x, %v, want %#x, %v", s, got, f, b, e)
	}
}

func TestParseFloatIsTheInverse(t *testing.T) {
	for _, b := range floats() {
		if math.IsNaN(math.Float64frombits(b)) {
			wantFloat(t, formOf(b), nan, api.OK)
			continue
		}
		wantFloat(t, formOf(b), b, api.OK)
	}
	for b, s := range knownFloats() {
		wantFloat(t, s, b, api.OK)
	}
}

var floatForm = regexp.MustCompile(`^(-?0x1(?:\.[0-9a-f]*[1-9a-f])?)(?:p(0|[1-9][0-9]*)|m([1-9][0-9]*))\z`)

// valueOf returns the bits of the float that is written as s, if s is a form, by exact calculation.
func valueOf(s string) (uint64, bool) {
	switch s {
	case "0x0":
		return 0, true
	case "-0x0":
		return signBit, true
	case "0xinf":
		return infinity, true
	case "-0xinf":
		return signBit | infinity, true
	case "0xnan":
		return nan, true
	}
	m := floatForm.FindStringSubmatch(s)
	if m == nil || len(m[2]) > 5 || len(m[3]) > 5 {
		return 0, false
	}
	exponent := "+" + m[2]
	if m[3] != "" {
		exponent = "-" + m[3]
	}
	exact, _, err := big.ParseFloat(m[1]+"p"+exponent, 0, 500, big.ToZero)
	if err != nil {
		panic(err)
	}
	f, accuracy := exact.Float64()
	return math.Float64bits(f), accuracy == big.Exact && !math.IsInf(f, 0)
}

func wantFloatModel(t *testing.T, s string) {
	t.Helper()
	if b, ok := valueOf(s); ok {
		wantFloat(t, s, b, api.OK)
		return
	}
	wantFloat(t, s, 0, api.ErrFloat)
}

func TestParseFloatOfChangedForms(t *testing.T) {
	forms := []string{"0x0", "-0x0", "0xinf", "-0xinf", "0xnan", "0x1p0", "-0x1m2", "0x1.8p0", "0x1.08p10", "-0x1.fffffffffffffp1023",
		"0x1.0000000000001m1022", "0x1.ffffffffffffem1023", "0x1m1074", "0x1.8m1073", "-0x1.4m1072", "0x1.0000000000002m1023", "0x1p999"}
	for _, s := range forms {
		wantFloatModel(t, s)
		for at := range len(s) + 1 {
			wantFloatModel(t, s[:at])
			wantFloatModel(t, s[at:])
			wantFloatModel(t, s[:at]+s)
			for c := range 128 {
				wantFloatModel(t, s[:at]+string(rune(c))+s[at:])
				if at < len(s) {
					wantFloatModel(t, s[:at]+string(rune(c))+s[at+1:])
				}
			}
			if at < len(s) {
				wantFloatModel(t, s[:at]+s[at+1:])
			}
		}
	}
}

func TestParseFloatOfShortStrings(t *testing.T) {
	for _, s := range overAlphabet("-x01.pm8", 4) {
		wantFloatModel(t, s)
		wantFloatModel(t, "0x1"+s)
		wantFloatModel(t, "-0x1."+s)
		wantFloatModel(t, "0x1.8p"+s)
		wantFloatModel(t, "0x1m10"+s)
	}
}

func TestParseFloatAtTheRange(t *testing.T) {
	digits := []string{"", ".8", ".1", ".4", ".0000000000001", ".0000000000002", ".00000000000008", ".fffffffffffff", ".ffffffffffffe", ".ffffffffffff8", ".fffffffffffff8", ".00000000000000000000000000000000000001"}
	for _, sign := range []string{"", "-"} {
		for _, d := range digits {
			for n := 960; n < 1200; n++ {
				wantFloatModel(t, sign+"0x1"+d+"p"+strconv.Itoa(n))
				wantFloatModel(t, sign+"0x1"+d+"m"+strconv.Itoa(n))
			}
		}
		// An exponent that has wrapped round would be in range.
		for _, n := range []string{"65536", "4294967296", "18446744073709551616", "18446744073709550592", "9223372036854775807", "9223372036854775808", "340282366920938463463374607431768211456"} {
			wantFloat(t, sign+"0x1p"+n, 0, api.ErrFloat)
			wantFloat(t, sign+"0x1m"+n, 0, api.ErrFloat)
		}
	}
}

func TestParseFloatOfWrongForms(t *testing.T) {
	for _, s := range []string{
		"", "0", "1", "-", "1.5", "inf", "nan", "NaN", "Inf", "0x", "0xin", "0xINF", "0xNaN", "-0xnan", "+0xinf", "+0x0", "--0x0", "0x0p0", "0x00", "0x0.0", "-0x0m1",
		"0x1", "0x1p", "0x1m", "0x1.p0", "0x1.8", "0x1.80p0", "0x1.0p0", "0x1p00", "0x1p01", "0x1m01", "0x1m0", "0x1p-1", "0x1p+1", "0x1m-1", "0x1m+1",
		"0X1p0", "0x1P0", "0x1.Ap0", "0x1.8p0 ", " 0x1.8p0", "0x2p0", "0x3p0", "0xap0", "0x.8p1", "0x0.8p1", "0x18p0", "0x1..8p0", "0x1.8.8p0", "0x1.8pp0", "0x1.8p0p0", "0x1.8mp1", "0x1.gp0",
		"0x1_0p0", "0x1.8p1_0", "0x1p1024", "0x1.1m1074", "0x1.8m1074", "0x1m1075", "0x1.fffffffffffff8p1023", "0x1.00000000000001p0", "0x1.ffffffffffffffp0", "1p0", "x1p0", "0x1.8p0\x00", "0x1.\xffp0",
	} {
		wantFloat(t, s, 0, api.ErrFloat)
	}
	for _, n := range []int{100, 70000, 3000000} {
		wantFloat(t, "0x1."+strings.Repeat("8", n)+"p0", 0, api.ErrFloat)
		wantFloat(t, "0x1."+strings.Repeat("0", n)+"p0", 0, api.ErrFloat)
		wantFloat(t, "0x1p"+strings.Repeat("1", n), 0, api.ErrFloat)
		wantFloat(t, "0x1m"+strings.Repeat("0", n), 0, api.ErrFloat)
		wantFloat(t, strings.Repeat("-", n)+"0x0", 0, api.ErrFloat)
	}
}
