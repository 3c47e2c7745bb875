package number

import (
	"math"
	"math/big"
	"regexp"
	"strconv"
	"strings"
	"testing"

	"tamis/api"
)

// All bytes that texts of numbers are made of, and some beside them.
const edges = "-+.09eE \xff"

// texts yields all texts of up to six of the edges.
func texts(yield func(string) bool) {
	all := []string{""}
	for n := 0; n < len(all); n++ {
		if !yield(all[n]) {
			return
		}
		if len(all[n]) < 6 {
			for i := range len(edges) {
				all = append(all, all[n]+edges[i:i+1])
			}
		}
	}
}

// wholeOf is what s tells as a whole number, by the document's words.
func wholeOf(s string) (int, bool) {
	if s == "" || strings.Trim(s, "0123456789") != "" {
		return 0, false
	}
	n, ok := new(big.Int).SetString(s, 10)
	if !ok {
		return 0, false
	}
	if !n.IsInt64() {
		return api.MaxInt, true
	}
	return int(n.Int64()), true
}

// form is that of a float's text: its digits ahead of the point, those behind
// it (there are some if there is a point), and the exponent.
var form = regexp.MustCompile(`^-?(?:([0-9]+)|([0-9]*)\.([0-9]+))(?:[eE]([+-]?[0-9]{1,4}))?$`)

// floatOf is what s tells as a float, by the document's words: the number
// itself, without a rest, and the float64 that is nearest to it.
func floatOf(s string) (float64, *big.Rat, bool) {
	m := form.FindStringSubmatch(s)
	if m == nil || len(m[1])+len(m[2])+len(m[3]) > 15 {
		return 0, nil, false
	}
	power, _ := strconv.Atoi(m[4])
	power -= len(m[3])
	if power < -22 || power > 22 {
		return 0, nil, false
	}
	n, _ := new(big.Int).SetString(m[1]+m[2]+m[3], 10)
	ten := new(big.Int).Exp(big.NewInt(10), big.NewInt(int64(max(power, -power))), nil)
	v := new(big.Rat).SetFrac(new(big.Int).Mul(n, ten), big.NewInt(1))
	if power < 0 {
		v.SetFrac(n, ten)
	}
	if s[0] == '-' {
		v.Neg(v)
	}
	f, _ := v.Float64()
	return f, v, true
}

// checkFloat holds what is answered of s, bit by bit, against the document's
// words.
func checkFloat(t *testing.T, s string) {
	t.Helper()
	want, _, ok := floatOf(s)
	if got, is := Float(s); is != ok || math.Float64bits(got) != math.Float64bits(want) {
		t.Fatalf("Float(%q) is %v, %v, not %v, %v", s, got, is, want, ok)
	}
}

func TestP4_1Whole(t *testing.T) {
	for s, want := range map[string]int{
		"0": 0, "7": 7, "10": 10, "0123456789": 123456789, "000": 0, "007": 7,
		"65535": 65535, "4294967296": 1 << 32,
		"922337203685477580":                              922337203685477580,
		"9223372036854775799":                             api.MaxInt - 8,
		"9223372036854775806":                             api.MaxInt - 1,
		"9223372036854775807":                             api.MaxInt,
		"00000000000000000000000000009223372036854775806": api.MaxInt - 1,
	} {
		if n, ok := Whole(s); n != want || !ok {
			t.Errorf("Whole(%q) is %d, %v", s, n, ok)
		}
	}
}

func TestP4_1WholeTooGreat(t *testing.T) {
	for _, s := range []string{
		"9223372036854775808", "9223372036854775809", "9223372036854775810", "9223372036854775817", "9223372036854775900",
		"9999999999999999999", "10000000000000000000",
		// These would be small if they wrapped round.
		"18446744073709551615", "18446744073709551616", "18446744073709551617", "36893488147419103233",
		"00009223372036854775808", "1" + strings.Repeat("0", 5000), strings.Repeat("9", 5000),
	} {
		if n, ok := Whole(s); n != api.MaxInt || !ok {
			t.Errorf("Whole(%q) is %d, %v", s, n, ok)
		}
	}
}

func TestP4_1NoWhole(t *testing.T) {
	for _, s := range []string{
		"", "-", "-1", "-0", "+1", "+", " 1", "1 ", "1 2", "\t1", "1\n", "1\x00", "\x001", "1a", "a", "0x1", "0b1", "0o7", "1_0", "1,0",
		"1.0", "1.", ".1", "1e1", "1/", "/1", "1:", ":1", "\u0661", "\uff11", "1\u00b2", "\xb1", "\x80", "1\xff",
		"9223372036854775808x", "x9223372036854775808", strings.Repeat("9", 5000) + ".", "NaN", "Inf", "MaxInt",
	} {
		if n, ok := Whole(s); n != 0 || ok {
			t.Errorf("Whole(%q) is %d, %v", s, n, ok)
		}
	}
}

func TestP4_1EachByte(t *testing.T) {
	for k := range 256 {
		c := string([]byte{byte(k)})
		for _, s := range []string{c, c + "1", "1" + c, "1" + c + "1"} {
			want, ok := wholeOf(s)
			if n, is := Whole(s); n != want || is != ok {
				t.Errorf("Whole(%q) is %d, %v", s, n, is)
			}
		}
	}
}

func TestP4_1AllTexts(t *testing.T) {
	for s := range texts {
		want, ok := wholeOf(s)
		if n, is := Whole(s); n != want || is != ok {
			t.Fatalf("Whole(%q) is %d, %v", s, n, is)
		}
	}
	// The greatest number, and those around it.
	for n := uint64(api.MaxInt - 1000); n < api.MaxInt+1000; n++ {
		s := strconv.FormatUint(n, 10)
		want, _ := wholeOf(s)
		if n, ok := Whole(s); n != want || !ok {
			t.Fatalf("Whole(%q) is %d, %v", s, n, ok)
		}
	}
}

func TestP4_2Float(t *testing.T) {
	for s, want := range map[string]float64{
		"0": 0, "1": 1, "-1": -1, "007": 7, ".5": 0.5, "-.5": -0.5, "0.5": 0.5, "1.25": 1.25, "-.5e1": -5, "-.5E1": -5,
		"1e2": 100, "1E2": 100, "1e+2": 100, "1e-2": 0.01, "1e0": 1, "1e-0": 1, "1e+0002": 100, "1e0002": 100, "100e-0002": 1,
		"0.1": 0.1, "0.2": 0.2, "0.3": 0.3, "1.1e1": 11, "2.5": 2.5, "123456789012345": 123456789012345, "999999999999999": 999999999999999,
		"1e22": 1e22, "-1e22": -1e22, "1.5e23": 1.5e23, "1e-22": 1e-22, ".1e-21": 1e-22, "999999999999999e22": 999999999999999e22, "999999999999999e-22": 999999999999999e-22,
		"000000000000001": 1, "0.00000000000001": 1e-14, "0.00000000000001e0036": 1e22, ".000000000000001e-7": 1e-22,
	} {
		if v, ok := Float(s); v != want || !ok {
			t.Errorf("Float(%q) is %v, %v, not %v", s, v, ok, want)
		}
	}
}

func TestP4_2NoughtWithoutSign(t *testing.T) {
	for _, s := range []string{"0", "-0", "-00", ".0", "-.0", "-0.0", "-0.0e5", "-0e-22", "-0e22", "-0E+1", "0e-22", "-000000000000000", "-.000000000000000e-7"} {
		if v, ok := Float(s); math.Float64bits(v) != 0 || !ok {
			t.Errorf("Float(%q) is %x, %v", s, math.Float64bits(v), ok)
		}
	}
}

func TestP4_2NotShort(t *testing.T) {
	for _, s := range []string{
		// Sixteen digits, noughts too, wherever the point stands.
		"1234567890123456", "0000000000000001", "1.000000000000000", "0.000000000000001", ".0000000000000001", "123456789012345.0", "0000000000000000", "-0000000000000001e1",
		strings.Repeat("0", 5000), strings.Repeat("1", 5000), "." + strings.Repeat("3", 5000),
		// A power beyond 22, less the digits behind the point, of nought too.
		"1e23", "1e-23", "0e23", "0e-23", "-0e23", ".1e-22", "1.0e-22", "1.5e24", ".1e24", ".00e25", "1e9999", "1e-9999", "0.1e-0022", "1e100", "1e0023",
	} {
		if v, ok := Float(s); math.Float64bits(v) != 0 || ok {
			t.Errorf("Float(%q) is %v, %v", s, v, ok)
		}
	}
}

func TestP4_2NoFloat(t *testing.T) {
	for _, s := range []string{
		"", "-", "+", ".", "-.", "e", "e1", "-e1", ".e1", "E", "1.", "-1.", "1.e1", "1..2", "1.2.3", ".1.", "..1",
		"+1", "+.5", "--1", "-+1", "+-1", "1-", "1+", "1e", "1E", "1e+", "1e-", "1e+-1", "1e-+1", "1e--1", "1e++1", "1e1e1", "1ee1", "1e1.0", "1e.1", "1e 1", "e", "1f1",
		"1e00001", "1e-00001", "1e+00000", "1e10000", "0e00000", "1e" + strings.Repeat("0", 5000),
		" 1", "1 ", "- 1", "1 e1", "1e1 ", "\t1", "1\n", "1\x00", "1x", "x1", "0x1", "0x1p1", "0b1", "1p1", "1_0", "1,5", "1d1",
		"Inf", "-Inf", "inf", "Infinity", "NaN", "nan", "\u0661", "\uff11", "1\u00b7" + "5", "\u22121", "1\xff", "\xb1", "1e\xb1",
	} {
		if v, ok := Float(s); math.Float64bits(v) != 0 || ok {
			t.Errorf("Float(%q) is %v, %v", s, v, ok)
		}
	}
}

func TestP4_2EachByte(t *testing.T) {
	for k := range 256 {
		c := string([]byte{byte(k)})
		for _, s := range []string{c, c + "1", "1" + c, "1" + c + "1", "1." + c, "." + c + "1", "1e" + c, "1e" + c + "1", "1e1" + c, "-" + c, "-1" + c + "5", "0" + c + "0"} {
			checkFloat(t, s)
		}
	}
}

func TestP4_2AllTexts(t *testing.T) {
	for s := range texts {
		checkFloat(t, s)
	}
}

// rows yields rows of n digits, some at the edges, some of all kinds.
func rows(n int) []string {
	l := []string{strings.Repeat("0", n), strings.Repeat("9", n), strings.Repeat("0", n-1) + "1", "1" + strings.Repeat("0", n-1), strings.Repeat("5", n)}
	x := uint64(n)
	for range 4 {
		s := ""
		for range n {
			x = x*6364136223846793005 + 1442695040888963407
			s += strconv.Itoa(int(x >> 33 % 10))
		}
		l = append(l, s)
	}
	return l
}

func TestP4_2AllPlacesAndPowers(t *testing.T) {
	for n := 1; n <= 17; n++ {
		for _, row := range rows(n) {
			for power := -45; power <= 45; power++ {
				e := strconv.Itoa(power)
				checkFloat(t, row+"e"+e)
				for point := range n {
					checkFloat(t, "-"+row[:point]+"."+row[point:]+"E"+e)
				}
			}
			for point := range n {
				checkFloat(t, row[:point]+"."+row[point:])
			}
			checkFloat(t, row)
		}
	}
}

// nearest tells whether no float64 is nearer to v than f is, and none as near
// if f's last bit is 1. It does not hang on how big rounds.
func nearest(f float64, v *big.Rat) bool {
	off := func(g float64) *big.Rat {
		d := new(big.Rat).SetFloat64(g)
		return d.Abs(d.Sub(d, v))
	}
	for _, g := range []float64{math.Nextafter(f, math.Inf(1)), math.Nextafter(f, math.Inf(-1))} {
		c := off(f).Cmp(off(g))
		if c > 0 || c == 0 && math.Float64bits(f)&1 == 1 {
			return false
		}
	}
	return true
}

func TestP4_2Nearest(t *testing.T) {
	x := uint64(4)
	for power := -22; power <= 22; power++ {
		for range 500 {
			x = x*6364136223846793005 + 1442695040888963407
			for _, n := range []uint64{x >> 8 % 1e15, x >> 8 % 1e9, 1e15 - 1 - x>>8%1000} {
				s := strconv.FormatUint(n, 10) + "e" + strconv.Itoa(power)
				_, v, _ := floatOf(s)
				if f, ok := Float(s); !ok || !nearest(f, v) {
					t.Fatalf("Float(%q) is %v, %v", s, f, ok)
				}
			}
		}
	}
}

// Two float64s are as near to n times 10 to the power if n times 5 to the
// power is odd and takes 54 bits: the one between them would need a bit more.
func TestP4_2AsNear(t *testing.T) {
	up, down := 0, 0
	five := uint64(25)
	for power := 2; power <= 22; power++ {
		for n := (1<<53/five + 1) | 1; n < 1<<54/five && n < 1e15; n += 2 * (1 + 1<<53/five/300) {
			s := "-" + strconv.FormatUint(n, 10) + "e" + strconv.Itoa(power)
			f, ok := Float(s)
			_, v, _ := floatOf(s)
			if !ok || math.Float64bits(f)&1 == 1 || !nearest(f, v) {
				t.Fatalf("Float(%q) is %v, %v", s, f, ok)
			}
			switch new(big.Rat).SetFloat64(-f).Cmp(new(big.Rat).Neg(v)) {
			case 1:
				up++
			case -1:
				down++
			default:
				t.Fatalf("%q is a float64", s)
			}
		}
		five *= 5
	}
	if up == 0 || down == 0 {
		t.Errorf("%d are rounded up, %d down", up, down)
	}
}

func TestP4_3ManyTextsOneValue(t *testing.T) {
	for want, l := range map[float64][]string{
		0:       {"0", "-0", ".0", "00.00", "0e22", "-0e-22", "0E+0"},
		1:       {"1", "01", "1.0", "1.00000000000000", "10e-1", ".1e1", "0.01e+2", "1e0", "1E-0", "1e0000", "100000000000000e-14", ".000000000000001e15"},
		-0.1:    {"-.1", "-0.1", "-1e-1", "-00.10E0", "-10e-002", "-.01e1", "-.00000000000001e13"},
		1e22:    {"1e22", "1E+22", "10e21", "100000000000000e8", "1.0e22", "1.00000000000000e22", ".1e23", ".000000000000001e37"},
		1234.56: {"1234.56", "123456e-2", ".123456e4", "1.23456E3", "001234.5600", "12345600e-0004"},
	} {
		for _, s := range l {
			if v, ok := Float(s); math.Float64bits(v) != math.Float64bits(want) || !ok {
				t.Errorf("Float(%q) is %v, %v, not %v", s, v, ok, want)
			}
		}
	}
	for _, s := range []string{"7", "07", "000000000000007", strings.Repeat("0", 5000) + "7"} {
		if n, ok := Whole(s); n != 7 || !ok {
			t.Errorf("Whole(%q) is %d, %v", s, n, ok)
		}
	}
}

// A whole number of few digits is the same, whichever call reads it.
func TestP4_3BothCalls(t *testing.T) {
	for n := 1; n <= 15; n++ {
		for _, row := range rows(n) {
			w, ok := Whole(row)
			f, is := Float(row)
			if !ok || !is || float64(w) != f || int(f) != w {
				t.Errorf("%q: %d, %v, and %v, %v", row, w, ok, f, is)
			}
		}
	}
}
