package four

import (
	"math"
	"math/big"
	"regexp"
	"slices"
	"strconv"
	"strings"
	"testing"
)

// The forms of a number's text, by the document's words, and of a row of digits.
var (
	sixteen = regexp.MustCompile(`^0[xX]([0-9a-fA-F]*)\z`)
	eight   = regexp.MustCompile(`^0([0-7]+)\z`)
	ten     = regexp.MustCompile(`^([1-9][0-9]*|0)\z`)
	row     = regexp.MustCompile(`^[0-9]+\z`)
)

// numberOf is the number that s tells, by the document's words; nil, if none.
func numberOf(s string) *big.Int {
	base, m := 16, sixteen.FindStringSubmatch(s)
	if m == nil {
		base, m = 8, eight.FindStringSubmatch(s)
	}
	if m == nil {
		base, m = 10, ten.FindStringSubmatch(s)
	}
	if m == nil {
		return nil
	}
	n, ok := new(big.Int).SetString("0"+m[1], base)
	if !ok {
		panic(s)
	}
	return n
}

// partsOf is the parts of s.
func partsOf(s string) []string {
	l := strings.Split(s, ".")
	if n := len(l) - 1; n > 0 && l[n] == "" {
		return l[:n]
	}
	return l
}

// endsOf is what the document asks of the last part of s.
func endsOf(s string) bool {
	l := partsOf(s)
	last := l[len(l)-1]
	return row.MatchString(last) || numberOf(last) != nil
}

// addressOf is the address that s tells, by the document's words.
func addressOf(s string) (uint32, bool) {
	l := partsOf(s)
	if len(l) > 4 {
		return 0, false
	}
	sum := new(big.Int)
	for i, p := range l {
		n := numberOf(p)
		if n == nil {
			return 0, false
		}
		below, times := big.NewInt(256), []int64{1 << 24, 1 << 16, 1 << 8}[min(i, 2)]
		if i == len(l)-1 {
			below.Exp(below, big.NewInt(int64(5-len(l))), nil)
			times = 1
		}
		if n.Cmp(below) >= 0 {
			return 0, false
		}
		sum.Add(sum, n.Mul(n, big.NewInt(times)))
	}
	if sum.Cmp(big.NewInt(math.MaxUint32)) > 0 {
		panic(s)
	}
	return uint32(sum.Uint64()), true
}

// checkEnds holds what is answered of s against the document's words.
func checkEnds(t *testing.T, s string) {
	t.Helper()
	if got, want := Ends(s), endsOf(s); got != want {
		t.Errorf("Ends(%.99q) is %v", s, got)
	}
}

// checkParse holds what is answered of s against the document's words.
func checkParse(t *testing.T, s string) {
	t.Helper()
	want, is := addressOf(s)
	if got, ok := Parse(s); got != want || ok != is {
		t.Errorf("Parse(%.99q) is %x, %v, not %x, %v", s, got, ok, want, is)
	}
}

// texts yields all texts of up to six bytes of those that the promises tell
// apart.
func texts(yield func(string) bool) {
	const edges = "01789aFxX.g"
	all := []string{""}
	for n := 0; n < len(all); n++ {
		if !yield(all[n]) {
			return
		}
		if len(all[n]) < 6 {
			for i := range len(edges) {
				all = append(all, all[n]+edges[i:i+1])
			}
		}
	}
}

// joined yields all texts of one to most pieces with points between, and some
// with more points around.
func joined(most int, pieces []string) func(func(string) bool) {
	return func(yield func(string) bool) {
		all := slices.Clone(pieces)
		for n := 0; n < len(all); n++ {
			s := all[n]
			if !yield(s) || !yield(s+".") || !yield(s+"..") || !yield("."+s) {
				return
			}
			if strings.Count(s, ".") < most-1 {
				for _, p := range pieces {
					all = append(all, s+"."+p)
				}
			}
		}
	}
}

// eachByte yields texts with a byte of each kind, wherever it may stand.
func eachByte(yield func(string) bool) {
	for k := range 256 {
		c := string([]byte{byte(k)})
		for _, s := range []string{
			c, c + "1", "1" + c, "1" + c + "1", "0" + c, "0" + c + "1", "01" + c, "0x" + c, "0X1" + c, "0x" + c + "1",
			"1." + c, "1." + c + ".", c + ".1", "1." + c + ".1", "1.2.3." + c + "4", "1.2.3.4" + c, "1.0" + c, "a.1" + c, "a.0x" + c,
		} {
			if !yield(s) {
				return
			}
		}
	}
}

// long is texts of many digits, of many noughts, of many points.
func long() []string {
	var l []string
	for _, n := range []int{8, 9, 10, 11, 12, 15, 16, 17, 19, 20, 21, 22, 23, 31, 32, 33, 63, 64, 65, 5000} {
		for _, c := range []string{"0", "1", "7", "8", "9", "f", "F", "x", ".", "1.", "0.", ".1", "0x."} {
			s := strings.Repeat(c, n)
			for _, ahead := range []string{"", "0", "0x", "0X", "1", "4", "1.", "1.2.3."} {
				l = append(l, ahead+s, ahead+s+".", ahead+s+"1", ahead+s+".1", ahead+s+"g")
			}
		}
	}
	return l
}

func TestP9_1Ends(t *testing.T) {
	for _, s := range []string{
		"0", "7", "00", "01", "08", "09", "0189", "9876543210", "99999999999999999999", "4294967296",
		"0x", "0X", "0x0", "0X1f", "0xFf", "0xabcdefABCDEF0123456789", "0x00000000000000000000000",
		"1.", "0x.", "09.", "a.1", "a.09", "a.0x", "a.0XF", "a.1.", "a.0x.", "..1", "..1.", "1.2.3.4.5.6", "1.2.3.4.256", "\xff.1", "\u0661.1", " .1",
		strings.Repeat("a.", 5000) + "1", strings.Repeat(".", 5000) + "1.", strings.Repeat("9", 5000), "a.0x" + strings.Repeat("f", 5000),
	} {
		if !Ends(s) {
			t.Errorf("%.99q is false", s)
		}
	}
}

func TestP9_1EndsNot(t *testing.T) {
	for _, s := range []string{
		"", ".", "..", "...", "1..", "1...", "a", "f", "x", "x1", "X", "xx", "0xx", "0x0x1", "0xg", "0xfg", "0x-1", "0x ", "00x1", "1x", "10x1",
		"1f", "0f", "0a", "0b1", "0o7", "1e1", "1a", "a1", "-1", "+1", "-", " 1", "1 ", "1_0", "1,2", "1\n", "0x\n", "1\x00", "0x\x00",
		"a.", "1.a", "1.a.", "1.2.3.x", "1.2.3.1f", "1.0xg", "1.1..", "1.-1", "1. 1", "1.1 ", "1.\u0661", "\u0661", "\uff11", "1\u3002", "\xb1", "1\xff", "1.\xff",
		strings.Repeat("1.", 5000) + "a", strings.Repeat("1.", 5000) + ".", strings.Repeat(".", 5000), strings.Repeat("9", 5000) + "f", "0x" + strings.Repeat("f", 5000) + "g",
	} {
		if Ends(s) {
			t.Errorf("%.99q is true", s)
		}
	}
}

// What ends as an address does is often none.
func TestP9_1EndsButNone(t *testing.T) {
	for _, s := range []string{"08", "1.09", "a.1", "1.2.3.4.5", "1.2.3.256", "4294967296", ".1", "1..2", "0x100000000", "99999999999999999999"} {
		if n, ok := Parse(s); !Ends(s) || n != 0 || ok {
			t.Errorf("%q: %v, and %x, %v", s, Ends(s), n, ok)
		}
	}
}

func TestP9_1AllTexts(t *testing.T) {
	for s := range texts {
		checkEnds(t, s)
	}
	for s := range eachByte {
		checkEnds(t, s)
	}
	for _, s := range long() {
		checkEnds(t, s)
	}
}

func TestP9_2Parse(t *testing.T) {
	for s, want := range map[string]uint32{
		"0": 0, "00": 0, "0x": 0, "0X": 0, "0x0": 0, "0.": 0, "0x.": 0, "0.0": 0, "0x.0X.00.0": 0, "0x.0x.0x.0x.": 0,
		"1": 1, "1.": 1, "01": 1, "0x1": 1, "010": 8, "10": 10, "0x10": 16, "0xaF": 0xaf, "0XFa": 0xfa, "0377": 255,
		"1.2": 0x01000002, "1.2.3": 0x01020003, "1.2.3.4": 0x01020304, "1.2.3.4.": 0x01020304, "4.3.2.1": 0x04030201,
		"0x7f.1": 0x7f000001, "0x7F.1": 0x7f000001, "017.0x1e.29.0X1F": 0x0f1e1d1f, "0300.0250.1": 0xc0a80001,
		"255.255.255.255": math.MaxUint32, "0xff.0377.255.0xFF.": math.MaxUint32, "255.255.65535": math.MaxUint32, "255.16777215": math.MaxUint32,
		"4294967295": math.MaxUint32, "0xffffffff": math.MaxUint32, "037777777777": math.MaxUint32, "0377.0377.0177777": math.MaxUint32, "0xff.0xffffff": math.MaxUint32,
		"255": 255, "256": 256, "65536": 65536, "16777216": 1 << 24, "2147483648": 1 << 31, "1.256": 0x01000100, "1.65536": 0x01010000, "1.2.256": 0x01020100,
		"1.0.0.0": 1 << 24, "0.1.0.0": 1 << 16, "0.0.1.0": 1 << 8, "0.0.0.1": 1, "0.1.0": 1 << 16, "0.1": 1, "1.0": 1 << 24, "1.0.0": 1 << 24,
		"0x00000000000000000000001": 1, "000000000000000000000000000001": 1, "0000.00000000000000000000.0x000000000000000000000000.00000000000000000000377": 255,
		"0x" + strings.Repeat("0", 5000) + "ff.1": 0xff000001, "0" + strings.Repeat("0", 5000): 0,
	} {
		if n, ok := Parse(s); n != want || !ok {
			t.Errorf("Parse(%.99q) is %x, %v, not %x", s, n, ok, want)
		}
	}
}

func TestP9_2None(t *testing.T) {
	for _, s := range []string{
		// Of parts that are none, or too many of them.
		"", ".", "..", "...", "....", ".1", ".1.2.3", "1..", "1..2", "1...2", "1.2.3..", "1.2.3.4..", "1.2.3.4.5", "1.2.3.4.5.", "0.0.0.0.0", "1.2.3.4.a",
		// Of parts that are no number's text.
		"08", "09", "019", "1.09", "08.1", "1.2.3.08", "00x1", "0x0x1", "x", "x1", "0xg", "0xG", "0xfg", "1.0x1g", "1f", "0f", "a", "f", "ff", "a.1", "1.a", "1.2.3.a",
		"-1", "+1", "-0", "1.-1", "0x-1", "0x+1", " 1", "1 ", "1. 2", "\t1", "1\n", "1.2.3.4\n", "0x 1", "1\x00", "\x001", "1_0", "0b1", "0o7", "1e1", "1,2", "1:2", "1/2",
		"\u0661", "\uff11", "1\u30022", "1\uff0e2", "\xb1", "1\xff", "1.\x80",
		// Of numbers that are too great, each where it stands.
		"4294967296", "0x100000000", "040000000000", "99999999999", "1.16777216", "0.0x1000000", "1.2.65536", "0.0.0x10000", "1.2.3.256", "0.0.0.0400", "1.2.3.0x100",
		"256.1", "0x100.1", "0400.1", "1.256.1", "1.256.1.1", "256.0.0.0", "0.256.0.0", "0.0.256.0", "0.0.0.256", "4294967295.1", "1.16777215.1",
		// These would be small if they wrapped round.
		"18446744073709551615", "18446744073709551616", "18446744073709551617", "0x10000000000000000", "0x10000000000000001", "02000000000000000000001", "0x8000000000000000",
		"4294967297.1", "18446744073709551617.1", "1.2.3.18446744073709551617", "0x100000001.1", "0x80000000000000000000000000000001",
		strings.Repeat("9", 5000), "1" + strings.Repeat("0", 5000), "0x1" + strings.Repeat("0", 5000), "01" + strings.Repeat("0", 5000),
		strings.Repeat("1.", 5000), strings.Repeat(".", 5000), strings.Repeat("0", 5000) + "8", "0x" + strings.Repeat("0", 5000) + "g",
	} {
		if n, ok := Parse(s); n != 0 || ok {
			t.Errorf("Parse(%.99q) is %x, %v", s, n, ok)
		}
	}
}

func TestP9_2AllTexts(t *testing.T) {
	for s := range texts {
		checkParse(t, s)
	}
	for s := range eachByte {
		checkParse(t, s)
	}
	for _, s := range long() {
		checkParse(t, s)
	}
}

// Numbers that are the greatest where they stand, and the next ones.
func TestP9_2AllParts(t *testing.T) {
	pieces := []string{
		"0", "1", "0x", "0377", "0400", "255", "256", "0xfF", "65535", "65536", "0200000", "0xffffff", "0x1000000",
		"4294967295", "4294967296", "08", "g", "",
	}
	for s := range joined(3, pieces) {
		checkParse(t, s)
		checkEnds(t, s)
	}
	for s := range joined(5, []string{"0", "255", "256", "0x", "08", ""}) {
		checkParse(t, s)
		checkEnds(t, s)
	}
}

// numbers yields numbers whose bytes are at the edges, and some of all kinds.
func numbers(yield func(uint32) bool) {
	edges := []uint32{0, 1, 9, 10, 11, 99, 100, 101, 127, 128, 199, 200, 249, 250, 254, 255}
	for _, a := range edges {
		for _, b := range edges {
			for _, c := range edges {
				for _, d := range edges {
					if !yield(a<<24 | b<<16 | c<<8 | d) {
						return
					}
				}
			}
		}
	}
	// Any numbers do, if they are the same each time.
	x := uint64(9)
	for range 50000 {
		x = x*6364136223846793005 + 1442695040888963407
		if !yield(uint32(x >> 32)) {
			return
		}
	}
}

func TestP9_3Write(t *testing.T) {
	for n, want := range map[uint32]string{
		0: "0.0.0.0", 1: "0.0.0.1", 1 << 8: "0.0.1.0", 1 << 16: "0.1.0.0", 1 << 24: "1.0.0.0", 1 << 31: "128.0.0.0",
		0x01020304: "1.2.3.4", 0x04030201: "4.3.2.1", 0x7f000001: "127.0.0.1", 0x0a00010a: "10.0.1.10", 0xc0a80001: "192.168.0.1",
		0x09636463: "9.99.100.99", 0xff00ff00: "255.0.255.0", 255: "0.0.0.255", 257: "0.0.1.1", math.MaxInt32: "127.255.255.255", math.MaxUint32: "255.255.255.255",
	} {
		if s := Write(n); s != want {
			t.Errorf("Write(%x) is %q, not %q", n, s, want)
		}
	}
}

func TestP9_3EachByte(t *testing.T) {
	for k := range uint32(256) {
		d := strconv.Itoa(int(k))
		for n, want := range map[uint32]string{
			k:                        "0.0.0." + d,
			k<<8 | 0x01020003:        "1.2." + d + ".3",
			k<<16 | 0xff00ffff:       "255." + d + ".255.255",
			k<<24 | 10:               d + ".0.0.10",
			k<<24 | k<<16 | k<<8 | k: d + "." + d + "." + d + "." + d,
		} {
			if s := Write(n); s != want {
				t.Errorf("Write(%x) is %q, not %q", n, s, want)
			}
		}
	}
}

// What is written has four decimals without noughts ahead, and nothing else.
func TestP9_3Form(t *testing.T) {
	form := regexp.MustCompile(`^(0|[1-9][0-9]{0,2})(\.(0|[1-9][0-9]{0,2})){3}\z`)
	for n := range numbers {
		if s := Write(n); !form.MatchString(s) {
			t.Fatalf("Write(%x) is %q", n, s)
		}
	}
}

func TestP9_4ReadAsItWas(t *testing.T) {
	for n := range numbers {
		s := Write(n)
		if got, ok := Parse(s); got != n || !ok || !Ends(s) {
			t.Fatalf("%x: %q, which is read as %x, %v, %v", n, s, got, ok, Ends(s))
		}
		if got, ok := Parse(s + "."); got != n || !ok {
			t.Fatalf("%x: %q is read as %x, %v", n, s+".", got, ok)
		}
	}
}

// However an address is told, it is written in one form, and read as it was.
func TestP9_4ManyTextsOneAddress(t *testing.T) {
	for s := range joined(4, []string{"0", "00", "0x", "7", "010", "0x10", "0377", "0xFf", "255", "08", "256"}) {
		n, ok := Parse(s)
		if !ok {
			continue
		}
		if again, ok := Parse(Write(n)); again != n || !ok {
			t.Fatalf("%q: %x, and then %x, %v", s, n, again, ok)
		}
	}
	for want, l := range map[string][]string{
		"127.0.0.1":   {"127.0.0.1", "127.1", "127.0.1", "0x7f.1", "0177.1", "0x7f000001", "2130706433", "017700000001", "0X7F.0x.00.01."},
		"1.2.3.4":     {"1.2.3.4", "1.2.772", "1.131844", "16909060", "0x1020304", "0100401404", "01.02.03.04"},
		"192.168.0.1": {"192.168.1", "0300.0250.1", "0xC0A80001", "3232235521."},
	} {
		for _, s := range l {
			if n, ok := Parse(s); !ok || Write(n) != want {
				t.Errorf("%q: %q, %v, not %q", s, Write(n), ok, want)
			}
		}
	}
}
