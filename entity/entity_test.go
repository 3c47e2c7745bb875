package entity

import (
	"math"
	"math/big"
	"regexp"
	"strconv"
	"strings"
	"testing"
	"unsafe"
)

// The names and numbers, as the document's words tell them: those that need
// no ;, those that need one, and the numbers that stand for other signs.
const (
	needNone = "amp 26, AMP 26, lt 3c, LT 3c, gt 3e, GT 3e, quot 22, QUOT 22, nbsp a0, shy ad, not ac, reg ae, copy a9, para b6, sect a7, yen a5, deg b0, times d7, eacute e9, ouml f6, szlig df"
	needOne  = "apos 27, colon 3a, sol 2f, bsol 5c, quest 3f, num 23, percnt 25, commat 40, equals 3d, plus 2b, comma 2c, period 2e, semi 3b, excl 21, dollar 24, ast 2a, lowbar 5f, grave 60, Hat 5e, lpar 28, rpar 29, lsqb 5b, rsqb 5d, lcub 7b, rcub 7d, verbar 7c, Tab 9, NewLine a, notin 2209, nvlt 3c 20d2, nvgt 3e 20d2, zwnj 200c, zwj 200d, ZeroWidthSpace 200b, NoBreak 2060, fjlig 66 6a, copysr 2117, timesbar 2a31"
	others   = "80 20ac, 82 201a, 83 192, 84 201e, 85 2026, 86 2020, 87 2021, 88 2c6, 89 2030, 8a 160, 8b 2039, 8c 152, 8e 17d, 91 2018, 92 2019, 93 201c, 94 201d, 95 2022, 96 2013, 97 2014, 98 2dc, 99 2122, 9a 161, 9b 203a, 9c 153, 9e 17e, 9f 178"
)

const replacement = "\xef\xbf\xbd"

// told is what a list of names or numbers, with signs behind each, tells.
func told(list string) map[string]string {
	m := map[string]string{}
	for _, item := range strings.Split(list, ", ") {
		words := strings.Fields(item)
		for _, hex := range words[1:] {
			c, err := strconv.ParseUint(hex, 16, 32)
			if err != nil {
				panic(err)
			}
			m[words[0]] += string(rune(c))
		}
	}
	return m
}

// known holds all that the document's words tell.
type known struct {
	names map[string]string
	moved map[int]string
}

func learn() known {
	k := known{map[string]string{}, map[int]string{}}
	for name, sign := range told(needNone) {
		k.names[name] = sign
		k.names[name+";"] = sign
	}
	for name, sign := range told(needOne) {
		k.names[name+";"] = sign
	}
	for hex, sign := range told(others) {
		n, _ := strconv.ParseUint(hex, 16, 32)
		k.moved[int(n)] = sign
	}
	return k
}

// number is what Number of n is to be.
func (k known) number(n int) string {
	if n <= 0 || n > 0x10ffff || 0xd800 <= n && n <= 0xdfff {
		return replacement
	}
	if s, ok := k.moved[n]; ok {
		return s
	}
	return string(rune(n))
}

// name is the longest name at the front of s, or an empty one.
func (k known) name(s string) string {
	long := ""
	for name := range k.names {
		if len(name) > len(long) && strings.HasPrefix(s, name) {
			long = name
		}
	}
	return long
}

var (
	numeric = regexp.MustCompile(`^&#(?:[xX]([0-9A-Fa-f]+)|([0-9]+));?`)
	onward  = regexp.MustCompile(`^[A-Za-z0-9=]`)
)

// first is what stands in place of the & at the front of s, and how many bytes
// of s it takes the place of.
func (k known) first(s string) (string, int) {
	if m := numeric.FindStringSubmatch(s); m != nil {
		base := 10
		if m[1] != "" {
			base = 16
		}
		n, _ := new(big.Int).SetString(m[1]+m[2], base)
		if n.Cmp(big.NewInt(0x110000)) > 0 {
			return k.number(0x110000), len(m[0])
		}
		return k.number(int(n.Int64())), len(m[0])
	}
	name := k.name(s[1:])
	if name == "" || !strings.HasSuffix(name, ";") && onward.MatchString(s[1+len(name):]) {
		return s[:1+len(name)], 1 + len(name)
	}
	return k.names[name], 1 + len(name)
}

// decoded is what Decode of s is to be.
func (k known) decoded(s string) string {
	var b []byte
	for s != "" {
		front, n := s[:1], 1
		if s[0] == '&' {
			front, n = k.first(s)
		}
		b = append(b, front...)
		s = s[n:]
	}
	return string(b)
}

// check holds Decode of s against what it is to be.
func (k known) check(t *testing.T, s string) {
	t.Helper()
	got := Decode(s)
	if want := k.decoded(s); got != want {
		t.Fatalf("Decode(%q) is %q, not %q", s, got, want)
	}
	if len(got) > len(s) {
		t.Fatalf("%q is longer than %q", got, s)
	}
}

func TestP5_1EachName(t *testing.T) {
	k := learn()
	if n := len(k.names); n != 21*2+38 {
		t.Fatalf("%d names are known", n)
	}
	for name, want := range k.names {
		if s, ok := Named(name); s != want || !ok {
			t.Errorf("Named(%q) is %q, %v, not %q", name, s, ok, want)
		}
	}
}

func TestP5_1TwoSigns(t *testing.T) {
	for name, want := range map[string]string{
		"nvlt;": "\x3c\xe2\x83\x92", "nvgt;": "\x3e\xe2\x83\x92", "fjlig;": "\x66\x6a",
		"Tab;": "\x09", "NewLine;": "\x0a", "yen": "\xc2\xa5", "timesbar;": "\xe2\xa8\xb1",
	} {
		if s, ok := Named(name); s != want || !ok {
			t.Errorf("Named(%q) is %q, %v", name, s, ok)
		}
	}
}

func TestP5_1NoName(t *testing.T) {
	k := learn()
	for _, name := range []string{"", ";", ";;", "&", "&amp;", "#38", "#38;", "#x26;", "x", "Tab", "tab;", "newline;", "zerowidthspace;", "hat;", "Apos;", "NBSP", "Copy", "COPY;", "REG", "notit;", "frac12;", "euro;", "hellip;", "lang;", "zwnjj;", "amp\x00", "\x00amp", "\xff", "\u00e9;", "QUOT=", strings.Repeat("amp", 1000), strings.Repeat(";", 1000)} {
		if s, ok := Named(name); s != "" || ok {
			t.Errorf("Named(%q) is %q, %v", name, s, ok)
		}
	}
	// All that is nearly one of the names.
	for name := range k.names {
		bare := strings.TrimSuffix(name, ";")
		for _, near := range []string{
			bare, bare + ";", name + ";", name + " ", " " + name, "&" + name, name + "=", name[1:], name[:len(name)-1], bare[:len(bare)-1] + ";",
			strings.ToUpper(name), strings.ToLower(name), strings.ToUpper(name[:1]) + name[1:], strings.ToLower(name[:1]) + name[1:], ";" + bare,
		} {
			want, is := k.names[near]
			if s, ok := Named(near); s != want || ok != is {
				t.Errorf("Named(%q) is %q, %v, not %q, %v", near, s, ok, want, is)
			}
		}
	}
}

// shortTexts yields all texts of up to three letters, with a ; and without.
func shortTexts(yield func(string) bool) {
	const letters = "ABCDEFGHIJKLMNOPQRSTUVWXYZabcdefghijklmnopqrstuvwxyz"
	all := []string{""}
	for n := 0; n < len(all); n++ {
		if !yield(all[n]) || !yield(all[n]+";") {
			return
		}
		if len(all[n]) < 3 {
			for i := range len(letters) {
				all = append(all, all[n]+letters[i:i+1])
			}
		}
	}
}

func TestP5_1ShortTexts(t *testing.T) {
	k := learn()
	for name := range shortTexts {
		want, is := k.names[name]
		if s, ok := Named(name); s != want || ok != is {
			t.Errorf("Named(%q) is %q, %v", name, s, ok)
		}
	}
}

func TestP5_2EachNumber(t *testing.T) {
	k := learn()
	if len(k.moved) != 27 {
		t.Fatalf("%d numbers are known", len(k.moved))
	}
	for n := -0x200; n < 0x110200; n++ {
		if s := Number(n); s != k.number(n) {
			t.Fatalf("Number(%x) is %q, not %q", n, s, k.number(n))
		}
	}
}

func TestP5_2Edges(t *testing.T) {
	for n, want := range map[int]string{
		0: replacement, 1: "\x01", 0x26: "&", 0x7f: "\x7f", 0x80: "\xe2\x82\xac", 0x81: "\xc2\x81", 0x8d: "\xc2\x8d", 0x8f: "\xc2\x8f", 0x90: "\xc2\x90", 0x9d: "\xc2\x9d", 0x9f: "\xc5\xb8", 0xa0: "\xc2\xa0",
		0xd7ff: "\xed\x9f\xbf", 0xd800: replacement, 0xdfff: replacement, 0xe000: "\xee\x80\x80", 0xfffd: replacement, 0xffff: "\xef\xbf\xbf", 0x10ffff: "\xf4\x8f\xbf\xbf", 0x110000: replacement,
		-1: replacement, -0x80: replacement, math.MinInt: replacement, math.MaxInt: replacement,
		// These would be signs if they were cut short.
		1<<32 + 0x41: replacement, -1<<32 + 0x41: replacement, 1<<32 + 0x80: replacement, math.MinInt + 0x41: replacement, 1<<16<<16<<16 + 0x93: replacement,
	} {
		if s := Number(n); s != want {
			t.Errorf("Number(%x) is %q, not %q", n, s, want)
		}
	}
}

func TestP5_3Numbers(t *testing.T) {
	for s, want := range map[string]string{
		"&#65;": "A", "&#65": "A", "&#65 ": "A ", "&#65B": "AB", "&#65;B": "AB", "&#65;;": "A;", "&#065;": "A", "a&#65;b": "aAb",
		"&#x41;": "A", "&#X41;": "A", "&#x41": "A", "&#X4a;": "J", "&#x4A;": "J", "&#x41g": "Ag", "&#x41;;": "A;", "&#x00041": "A",
		"&#xd7ff": "\ud7ff", "&#xD800": replacement, "&#57343;": replacement, "&#57344;": "\ue000",
		"&#65=": "A=", "&#65&#66": "AB", "&#x6a&amp;": "j&", "&#9;": "\t", "&#x0a": "\n",
		"&#128;": "\u20ac", "&#x80;": "\u20ac", "&#x8D;": "\u008d", "&#0;": replacement, "&#00;": replacement, "&#x0;": replacement, "&#0": replacement,
		// No digit stands there.
		"&#": "&#", "&#;": "&#;", "&#x": "&#x", "&#x;": "&#x;", "&#X": "&#X", "&#xg;": "&#xg;", "&#a;": "&#a;", "&#A1;": "&#A1;", "&# 65;": "&# 65;", "&#-1;": "&#-1;", "&#+1;": "&#+1;", "&#x x41;": "&#x x41;", "&#xx41;": "&#xx41;", "&#x-1": "&#x-1", "&##65;": "&##65;", "& #65;": "& #65;", "#65;": "#65;", "&65;": "&65;", "&x41;": "&x41;",
		"&#\uff11;": "&#\uff11;", "&#\xb1;": "&#\xb1;", "&#1_0;": "\x01_0;", "&#0x41;": replacement + "x41;", "&#1a;": "\x01a;",
		"&#amp;": "&#amp;", "&#&amp;": "&#&", "&#x&lt;": "&#x<",
	} {
		if got := Decode(s); got != want {
			t.Errorf("Decode(%q) is %q, not %q", s, got, want)
		}
	}
}

func TestP5_3TooGreat(t *testing.T) {
	for _, digits := range []string{
		"1114112", "1114113", "11141110", "4294967361", "9223372036854775807", "9223372036854775808", "18446744073709551615", "18446744073709551681", "18446744073709551616",
		"340282366920938463463374607431768211521", strings.Repeat("9", 5000), "65" + strings.Repeat("0", 5000), strings.Repeat("0", 5000) + "1114112",
	} {
		for _, end := range []string{"", ";", " ", "x"} {
			want := replacement + strings.TrimPrefix(end, ";")
			if got := Decode("&#" + digits + end); got != want {
				t.Errorf("%s%s: %q", digits, end, got)
			}
			if got := Decode("&#x" + digits + end); got != want {
				t.Errorf("x%s%s: %q", digits, end, got)
			}
		}
	}
	for _, digits := range []string{"100000000", "100000041", "10000000000000041", strings.Repeat("f", 5000), strings.Repeat("0", 5000) + "110000"} {
		if got := Decode("&#X" + digits + ";"); got != replacement {
			t.Errorf("X%s: %q", digits, got)
		}
	}
	// Many noughts ahead make no number too great.
	nought := strings.Repeat("0", 5000)
	if got := Decode("&#" + nought + "1114111;&#x" + nought + "10FFFF"); got != "\U0010ffff\U0010ffff" {
		t.Errorf("%q", got)
	}
}

func TestP5_3AllNumbers(t *testing.T) {
	k := learn()
	for n := range 0x110200 {
		if got := Decode("&#" + strconv.Itoa(n)); got != k.number(n) {
			t.Fatalf("%d: %q", n, got)
		}
		if got := Decode("&#x" + strconv.FormatInt(int64(n), 16) + ";"); got != k.number(n) {
			t.Fatalf("%x: %q", n, got)
		}
	}
}

func TestP5_3Names(t *testing.T) {
	for s, want := range map[string]string{
		"&amp;": "&", "&amp": "&", "&amp;;": "&;", "&AMP;": "&", "&Amp;": "&Amp;", "&apos;": "'", "&apos": "&apos", "&apos;=": "'=", "&Tab;": "\t", "&tab;": "&tab;",
		// Behind a name without a ;.
		"&ampx": "&ampx", "&ampX": "&ampX", "&amp1": "&amp1", "&amp0;": "&amp0;", "&amp=": "&amp=", "&amp-": "&-", "&amp ": "& ", "&amp&": "&&", "&amp\u00e9": "&\u00e9", "&amp\xff": "&\xff", "&amp\x00": "&\x00", "&amp:": "&:", "&amp/": "&/", "&amp<": "&<", "&amp@": "&@", "&amp[": "&[", "&amp`": "&`", "&amp{": "&{", "&amp#38": "&#38",
		// With one, nothing keeps it from being read.
		"&amp;x": "&x", "&amp;1": "&1", "&amp;=": "&=", "&colon;x": ":x",
		// The longest name.
		"&notin;": "\u2209", "&notin": "&notin", "&notit;": "&notit;", "&not;in;": "\u00acin;", "&not": "\u00ac", "&not=": "&not=", "&not in;": "\u00ac in;", "&copysr;": "\u2117", "&copysr": "&copysr", "&copy;sr;": "\u00a9sr;", "&copy-sr;": "\u00a9-sr;", "&timesbar;": "\u2a31", "&timesba;": "&timesba;", "&times;bar;": "\u00d7bar;", "&notin;=": "\u2209=", "&comma;&commat;": ",@", "&zwj;&zwnj;": "\u200d\u200c", "&ltgt;": "&ltgt;", "&lt&gt;": "<>", "&lt;gt;": "<gt;", "&ZeroWidthSpace;": "\u200b", "&ZeroWidthSpace": "&ZeroWidthSpace", "&ZeroWidthSpac;": "&ZeroWidthSpac;",
		// None.
		"": "", "&": "&", "&;": "&;", "& amp;": "& amp;", "&a": "&a", "&am": "&am", "&am;p": "&am;p", "amp;": "amp;", "&xamp;": "&xamp;", "&unknown;": "&unknown;", "a&b": "a&b", "&&": "&&", "&&&": "&&&", "&&amp;&": "&&&", "&=amp;": "&=amp;", "\xff&\xff": "\xff&\xff",
	} {
		if got := Decode(s); got != want {
			t.Errorf("Decode(%q) is %q, not %q", s, got, want)
		}
	}
}

func TestP5_3Once(t *testing.T) {
	for s, want := range map[string]string{
		"&amp;amp;": "&amp;", "&ampamp;": "&ampamp;", "&amp#65;": "&#65;", "&amp;#65;": "&#65;", "&#38;amp;": "&amp;", "&#38amp;": "&amp;", "&#38;#65;": "&#65;", "&#x26;#65;": "&#65;", "&#x26amp;": "\u026amp;", "&#x26;amp;": "&amp;",
		"&amp;&amp;amp;": "&&amp;", "&amp;lt": "&lt", "&#38;&#38;lt;": "&&lt;", "&&#97;mp;": "&amp;", "&a&#109;p;": "&amp;", "&am&#112;;": "&amp;", "&#54;&#53;": "65", "&&num;65;": "&#65;", "&num;65;": "#65;", "&amp&semi;": "&;", "&#&#54;5;": "&#65;",
	} {
		if got := Decode(s); got != want {
			t.Errorf("Decode(%q) is %q, not %q", s, got, want)
		}
	}
}

// Behind each name, and ahead of it, each byte, alone or with more.
func TestP5_3EachNameAndByte(t *testing.T) {
	k := learn()
	for name := range k.names {
		bare := strings.TrimSuffix(name, ";")
		for c := range 256 {
			b := string([]byte{byte(c)})
			for _, s := range []string{"&" + name + b, "&" + bare + b, "&" + bare + b + ";", "&" + b + name, b + "&" + name + b + "&", "&" + bare[:len(bare)-1] + b + ";"} {
				k.check(t, s)
			}
		}
	}
}

// Each name behind each other one, and each cut short.
func TestP5_3NamesTogether(t *testing.T) {
	k := learn()
	for one := range k.names {
		for n := range one {
			k.check(t, "&"+one[:n])
			k.check(t, "&"+one[:n]+";&"+one)
		}
		for two := range k.names {
			k.check(t, "&"+one+two)
			k.check(t, "&"+one+"&"+two)
		}
	}
}

// pieced yields all texts of up to most of the pieces.
func pieced(most int, pieces []string) func(func(string) bool) {
	return func(yield func(string) bool) {
		all := []string{""}
		from := 0
		for n := 0; n <= most; n++ {
			to := len(all)
			for _, s := range all[from:to] {
				if !yield(s) {
					return
				}
				if n == most {
					continue
				}
				for _, p := range pieces {
					all = append(all, s+p)
				}
			}
			from = to
		}
	}
}

func TestP5_3AllTexts(t *testing.T) {
	k := learn()
	for s := range pieced(6, []string{"&", "#", "x", ";", "amp", "0", "6", "a"}) {
		k.check(t, s)
	}
	for s := range pieced(4, []string{"&", "&#", "&#x", "&#X", ";", "=", " ", "1", "3", "8", "F", "G", "amp", "AMP", "not", "in", "it", "copy", "sr", "lt", "gt;", "fjlig", "\u00e9", "\xff", "\x00"}) {
		k.check(t, s)
	}
}

func TestP5_3Long(t *testing.T) {
	for _, x := range [][2]string{
		{"&", "&"}, {"&#", "&#"}, {"&#x", "&#x"}, {"&amp;", "&"}, {"&#38", "&"}, {"&a", "&a"}, {"&ZeroWidthSpac", "&ZeroWidthSpac"}, {"abc", "abc"}, {"&notin;\xff", "\u2209\xff"},
	} {
		if got := Decode(strings.Repeat(x[0], 100000)); got != strings.Repeat(x[1], 100000) {
			t.Errorf("%q", x[0])
		}
	}
}

func TestP5_4NoLonger(t *testing.T) {
	k := learn()
	for name, sign := range k.names {
		if s := "&" + name; len(Decode(s)) > len(s) || Decode(s) != sign {
			t.Errorf("%q: %q", s, Decode(s))
		}
	}
	// The shortest references to signs of many bytes.
	for _, s := range []string{"&#0", "&#x0", "&#128", "&#x80", "&#2048", "&#x800", "&#65536", "&#x10000", "&nvlt;", "&nvgt;", "&zwj;"} {
		if got := Decode(s); len(got) > len(s) || strings.Contains(got, "&") {
			t.Errorf("%q: %q", s, got)
		}
	}
}

// within tells whether a and b share memory.
func within(a, b string) bool {
	if a == "" || b == "" {
		return false
	}
	p, q := uintptr(unsafe.Pointer(unsafe.StringData(a))), uintptr(unsafe.Pointer(unsafe.StringData(b)))
	return p < q+uintptr(len(b)) && q < p+uintptr(len(a))
}

func TestW6NewMemory(t *testing.T) {
	for _, s := range []string{"nothing-to-change", "&", "&amp;", "a&b", "a&#65;b&notin;", strings.Repeat("~", 300)} {
		if within(s, Decode(s)) {
			t.Errorf("Decode(%q) is shared", s)
		}
	}
	room := []byte("a&amp;b")
	s := unsafe.String(&room[0], len(room))
	got := Decode(s)
	copy(room, "#######")
	if got != "a&b" {
		t.Errorf("%q", got)
	}
}
