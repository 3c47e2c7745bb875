package idna

import (
	"math"
	"slices"
	"strconv"
	"strings"
	"testing"
	"unsafe"

	"tamis/api"
	"tamis/puny"
)

// The document's words of how signs stand: from, to (or alone), and what stands
// in their place, by a sum or by the signs themselves.
const (
	mappedTo = `
41-5a +20; c0-d6 +20; d8-de +20; 100-12e even +1; 130 = 69 307
391-3a1 +20; 3a3-3a9 +20; 410-42f +20; 400-40f +50
2024 = 2e; 3002 = 2e; ff61 = 2e; 2100 = 61 2f 63; 2105 = 63 2f 6f
2460 = 31; 2461 = 32; 2462 = 33; 2463 = 34; 2464 = 35; 2465 = 36; 2466 = 37; 2467 = 38; 2468 = 39
ff01-ff20 -fee0; ff21-ff3a -fec0; ff3b-ff5e -fee0
1d7ce-1d7d7 -1d79e; 1d7d8-1d7e1 -1d7a8; 1d7e2-1d7eb -1d7b2; 1d7ec-1d7f5 -1d7bc; 1d7f6-1d7ff -1d7c6`
	leftOut = "ad; 200b; 2060; feff"
	asIs    = `
0-7f; df-f6; f8-ff; 101-12f; 300-36f; 3b1-3c9; 430-45f; 3041-3096
30a1-30fa; 4e00-9fff; ac00-d7a3; 1f300-1f5ff`
)

// stand is how a sign stands, and what stands in its place.
type stand struct {
	how int
	to  string
}

// hex is the number that s tells in base 16.
func hex(s string) int {
	n, err := strconv.ParseInt(s, 16, 64)
	if err != nil {
		panic(err)
	}
	return int(n)
}

// rules goes through what is told in table: the ends, and the words behind.
func rules(table string, do func(from, to int, words []string)) {
	for _, rule := range strings.FieldsFunc(table, func(r rune) bool { return r == ';' || r == '\n' }) {
		words := strings.Fields(rule)
		from, to, two := strings.Cut(words[0], "-")
		if !two {
			to = from
		}
		do(hex(from), hex(to), words[1:])
	}
}

// stands is how all signs stand that do not stand as MapNone.
func stands() map[int]stand {
	m := map[int]stand{}
	rules(asIs, func(from, to int, _ []string) {
		for c := from; c <= to; c++ {
			m[c] = stand{api.MapValid, string(rune(c))}
		}
	})
	rules(leftOut, func(from, _ int, _ []string) {
		m[from] = stand{api.MapGone, ""}
	})
	// What is told first goes last: it is put down over the others.
	rules(mappedTo, func(from, to int, words []string) {
		step := 1
		if words[0] == "even" {
			step = 2
			words = words[1:]
		}
		for c := from; c <= to; c += step {
			s := ""
			if words[0] == "=" {
				for _, w := range words[1:] {
					s += string(rune(hex(w)))
				}
			} else {
				s = string(rune(c + hex(words[0])))
			}
			m[c] = stand{api.MapTo, s}
		}
	})
	return m
}

// isLabel is Label as the document's words tell it, by the signs' stands.
func isLabel(l []int, m map[int]stand) bool {
	if len(l) == 0 {
		return false
	}
	above := 0
	for _, c := range l {
		if m[c].how != api.MapValid || c == 0x2e {
			return false
		}
		if c > 0x7f {
			above++
		}
	}
	return above > 0 && (l[0] < 0x300 || l[0] > 0x36f)
}

// nameOf is Domain as the document's words tell it, sign by sign.
func nameOf(s string, m map[int]stand) (string, bool) {
	labels := [][]int{nil}
	for _, r := range s {
		// Broken bytes are told as fffd, which stands as none does.
		at := m[int(r)]
		if at.how == api.MapNone {
			return "", false
		}
		for _, c := range at.to {
			if c == 0x2e {
				labels = append(labels, nil)
				continue
			}
			last := len(labels) - 1
			labels[last] = append(labels[last], int(c))
		}
	}
	out := ""
	for i, l := range labels {
		if i > 0 {
			out += "."
		}
		part, ok := labelOf(l, m)
		if !ok {
			return "", false
		}
		out += part
	}
	return out, true
}

// labelOf is what stands in a name for the label l.
func labelOf(l []int, m map[int]stand) (string, bool) {
	s, low := "", true
	for _, c := range l {
		s += string(rune(c))
		low = low && c < 0x80
	}
	if len(s) >= 4 && s[:4] == "xn--" {
		row, ok := puny.Decode(s[4:])
		if low && ok && isLabel(row, m) {
			return s, true
		}
		return "", false
	}
	if low {
		return s, true
	}
	row, ok := puny.Encode(l)
	if ok && isLabel(l, m) {
		return "xn--" + row, true
	}
	return "", false
}

// checkMap holds Map of c against what it is to be.
func checkMap(t *testing.T, c int, want stand) {
	t.Helper()
	if s, how := Map(c); s != want.to || how != want.how {
		t.Errorf("Map(%x) is %q, %d, not %q, %d", c, s, how, want.to, want.how)
	}
}

// checkDomain holds Domain of s against what it is to be, and the name against
// its own (P8.5).
func checkDomain(t *testing.T, s string, m map[int]stand) {
	t.Helper()
	want, is := nameOf(s, m)
	got, ok := Domain(s)
	if got != want || ok != is {
		t.Fatalf("Domain(%q) is %q, %v, not %q, %v", s, got, ok, want, is)
	}
	if !ok {
		return
	}
	if again, ok := Domain(got); !ok || again != got {
		t.Fatalf("Domain(%q), which came of %q, is %q, %v", got, s, again, ok)
	}
}

// signs is the signs of s, which is right.
func signs(s string) []int {
	var l []int
	for _, r := range s {
		l = append(l, int(r))
	}
	return l
}

// pieced yields all texts of up to most of the pieces.
func pieced(most int, pieces []string) func(func(string) bool) {
	return func(yield func(string) bool) {
		all := []string{""}
		from := 0
		for n := 0; n <= most; n++ {
			to := len(all)
			for _, s := range all[from:to] {
				if !yield(s) {
					return
				}
				if n == most {
					continue
				}
				for _, p := range pieces {
					all = append(all, s+p)
				}
			}
			from = to
		}
	}
}

func TestP8_1AllSigns(t *testing.T) {
	m := stands()
	for c := -0x200; c < 0x120000; c++ {
		checkMap(t, c, m[c])
	}
}

func TestP8_1Examples(t *testing.T) {
	for c, want := range map[int]stand{
		'A': {api.MapTo, "a"}, 'Z': {api.MapTo, "z"}, 'a': {api.MapValid, "a"}, '@': {api.MapValid, "@"}, '[': {api.MapValid, "["},
		0: {api.MapValid, "\x00"}, 0x7f: {api.MapValid, "\x7f"}, '.': {api.MapValid, "."}, 0x80: {},
		0xdc: {api.MapTo, "\u00fc"}, 0xd7: {}, 0xf7: {}, 0xdf: {api.MapValid, "\u00df"}, 0xad: {api.MapGone, ""},
		0x100: {api.MapTo, "\u0101"}, 0x101: {api.MapValid, "\u0101"}, 0x12e: {api.MapTo, "\u012f"}, 0x12f: {api.MapValid, "\u012f"},
		0x130: {api.MapTo, "i\u0307"}, 0x131: {}, 0x132: {},
		0x3a2: {}, 0x3c2: {api.MapValid, "\u03c2"}, 0x40f: {api.MapTo, "\u045f"}, 0x410: {api.MapTo, "\u0430"},
		0x2100: {api.MapTo, "a/c"}, 0x2105: {api.MapTo, "c/o"}, 0x3002: {api.MapTo, "."}, 0xff61: {api.MapTo, "."}, 0xff0e: {api.MapTo, "."},
		0x2460: {api.MapTo, "1"}, 0x2468: {api.MapTo, "9"}, 0x2469: {},
		0xff01: {api.MapTo, "!"}, 0xff10: {api.MapTo, "0"}, 0xff20: {api.MapTo, "@"}, 0xff21: {api.MapTo, "a"}, 0xff3a: {api.MapTo, "z"}, 0xff3b: {api.MapTo, "["}, 0xff41: {api.MapTo, "a"}, 0xff5e: {api.MapTo, "~"}, 0xff5f: {},
		0x1d7ce: {api.MapTo, "0"}, 0x1d7d7: {api.MapTo, "9"}, 0x1d7d8: {api.MapTo, "0"}, 0x1d7ff: {api.MapTo, "9"}, 0x1d800: {},
		0xfffd: {}, 0xd7a3: {api.MapValid, "\ud7a3"}, 0xd7a4: {}, 0xd800: {}, 0xdfff: {}, 0x1f5ff: {api.MapValid, "\U0001f5ff"},
	} {
		checkMap(t, c, want)
	}
}

// strange is numbers that are no signs, but near them, or the same if they
// were cut short.
func strange() []int {
	l := []int{-1, -2, -0x41, -0x61, 0xd800, 0xdfff, 0x110000, 0x110041, 1 << 31, 1<<31 + 'a', -1 << 31, math.MaxInt, math.MaxInt - 1, math.MinInt, math.MinInt + 1, math.MinInt + 'a', math.MinInt + 0xfc}
	for _, c := range []int{0, '.', 'A', 'a', 0xad, 0xdc, 0xfc, 0x130, 0x300, 0x2100, 0x2105, 0x3002, 0x4e00, 0xff21, 0x1d7ce} {
		l = append(l, 1<<8*0x10000+c, 1<<21+c, 1<<32+c, -1<<32+c, 1<<62+c, c-math.MaxInt)
	}
	return l
}

func TestP8_1NoSign(t *testing.T) {
	for _, c := range strange() {
		checkMap(t, c, stand{})
	}
}

func TestP8_2OneSign(t *testing.T) {
	m := stands()
	for c := -0x200; c < 0x120000; c++ {
		for _, l := range [][]int{{c}, {0xfc, c}, {'a', c}, {c, 0xfc}} {
			if want := isLabel(l, m); Label(l) != want {
				t.Errorf("Label(%x) is not %v", l, want)
			}
		}
	}
}

func TestP8_2Labels(t *testing.T) {
	for _, s := range []string{"\u00fc", "a\u00fc", "\u00fca", "-\u00fc", "xn--\u00fc", "a\u0301", "\u0101", "\u00df", "\u4e00", " \u00fc\x7f\x00", "\u00fc\u0301", "\u00fc\u036f\u0300", "a/c\u00fc", "\U0001f300"} {
		if !Label(signs(s)) {
			t.Errorf("Label(%q) is false", s)
		}
	}
	for _, s := range []string{"", "a", "abc", "-", "\x7f", "xn--tda", "\u0301", "\u0300\u00fc", "\u036fa\u00fc", "\u00dc", "A\u00fc", "\u00fcA", ".", "\u00fc.", ".\u00fc", "\u00fc.a", "\u00fc\u3002", "\u00fc\u00ad", "\u200b\u00fc", "\u00fc\u0080", "\u00fc\ufffd", "\u0130", "\u2100", "\u0131"} {
		if Label(signs(s)) {
			t.Errorf("Label(%q) is true", s)
		}
	}
	if Label(nil) || Label([]int{}) {
		t.Error("an empty list is none")
	}
	for _, c := range strange() {
		for _, l := range [][]int{{c}, {c, 0xfc}, {0xfc, c}, {'a', 0xfc, c, 'b'}} {
			if Label(l) {
				t.Errorf("Label(%x) is true", l)
			}
		}
	}
}

func TestP8_2AllLists(t *testing.T) {
	m := stands()
	pieces := []int{'a', 'A', '.', '-', 0x7f, 0x80, 0xad, 0xdc, 0xfc, 0x2ff, 0x300, 0x36f, 0x370, 0x1f5ff, -1, 0x110000, 1<<32 + 0xfc}
	all := [][]int{nil}
	for from, n := 0, 0; n < 4; n++ {
		to := len(all)
		for _, l := range all[from:to] {
			for _, c := range pieces {
				all = append(all, append(slices.Clone(l), c))
			}
		}
		from = to
	}
	for _, l := range all {
		if want := isLabel(l, m); Label(l) != want {
			t.Fatalf("Label(%x) is not %v", l, want)
		}
	}
}

func TestP8_2Long(t *testing.T) {
	// A label is one however long it is; it is puny that has no more than 255.
	for _, n := range []int{255, 256, 1000, 100000} {
		l := slices.Repeat([]int{'a'}, n)
		if Label(l) {
			t.Errorf("%d times a", n)
		}
		l[n-1] = 0xfc
		if !Label(l) {
			t.Errorf("%d signs", n)
		}
		l[n-1], l[n-2] = '.', 0xfc
		if Label(l) {
			t.Errorf("%d signs with 2e", n)
		}
	}
}

func TestP8_3Names(t *testing.T) {
	for s, want := range map[string]string{
		"": "", ".": ".", "..": "..", "a": "a", "example.com": "example.com", "EXAMPLE.Com.": "example.com.", ".a": ".a",
		"B\u00dcCHER.example": "xn--bcher-kva.example", "b\u00fccher.example": "xn--bcher-kva.example", "xn--bcher-kva.example": "xn--bcher-kva.example", "XN--BCHER-KVA.EXAMPLE": "xn--bcher-kva.example",
		"\u00fc": "xn--tda", "a.\u00fc.b": "a.xn--tda.b", "\u00fc..": "xn--tda..", "ma\u00f1ana.\u4ed6\u4eec\u4e3a\u4ec0\u4e48\u4e0d\u8bf4\u4e2d\u6587": "xn--maana-pta.xn--ihqwcrb4cv8a8dqg056pqjye",
		// Other dots cut too, and stand as 2e.
		"a\u2024b\u3002c\uff61d\uff0ee": "a.b.c.d.e", "\u00fc\u3002\u00fc": "xn--tda.xn--tda", "\u3002": ".",
		// What is mapped may begin with xn--, however it was told.
		"X\u00adn--tda": "xn--tda", "\uff58\uff4e--tda": "xn--tda", "\u200bxn-\u2060-t\ufeffda": "xn--tda", "xn--t\uff24a": "xn--tda", "a.xN--TDA.b": "a.xn--tda.b",
		// xn-- that does not begin a label is no mark of it.
		"axn--": "axn--", "-xn--a": "-xn--a", "xn-": "xn-", "xn": "xn", "xn-.-a": "xn-.-a", "x.n--a": "x.n--a", "xm--a": "xm--a",
		// Signs below 80 stand as they are, whichever they are.
		"a_b%!": "a_b%!", " \x00\x7f/?#@:[]<>": " \x00\x7f/?#@:[]<>", "\u2100x": "a/cx", "\u2105": "c/o", "\u2460\U0001d7d9\uff11": "111",
		// What is left out leaves nothing, nor a label less.
		"\u00ad": "", "a\u00adb": "ab", "a.\u00ad.b": "a..b", "\u00ad.\u200b": ".", "a\ufeff": "a",
		"\u0130": "xn--i-" + tail("i\u0307"), "\u00df": "xn--zca",
		"a\u0301": "xn--a-" + tail("a\u0301"), "\u00ada\u0301": "xn--a-" + tail("a\u0301"),
		// A row may begin with xn-- itself.
		"xn--xn---" + tail("xn--\u00fc"): "xn--xn---" + tail("xn--\u00fc"),
	} {
		if got, ok := Domain(s); !ok || got != want {
			t.Errorf("Domain(%q) is %q, %v, not %q", s, got, ok, want)
		}
	}
}

// tail is what stands behind the last hyphen of puny's text of s.
func tail(s string) string {
	row, _ := puny.Encode(signs(s))
	return row[strings.LastIndexByte(row, '-')+1:]
}

func TestP8_3None(t *testing.T) {
	for _, s := range []string{
		// What stands as MapNone, and broken bytes.
		"\u0080", "a\u0080", "\u200c", "a.\U0001f600", "\u00d7", "\ufffd", "\xff", "a\xffb", "\xc3", "a.b\xed\xa0\x80.c", "xn--tda.\u0131", "\u00ad\u0131",
		// What stands behind xn-- is no row, or no label.
		"xn--", "xn--.", "a.xn--", "xn--a", "xn--z", "xn--99999999", "xn--tda_", "xn--abc-", "xn---", "xn----", "xn--a-", "XN--A", "x\u00adn--a",
		// A row of a large letter, of 2e, of what is mapped or left out, of a mark at first.
		"xn--" + puned(0xdc), "xn--" + puned(0xfc, 0xad), "xn--" + puned(0xad), "xn--" + puned(0x301), "xn--" + puned(0x301, 0xfc), "xn--" + puned(0x3002, 0xfc), "xn--" + puned(0x80), "xn--" + puned(0x130), "xn--" + puned(0x10ffff), "xn--" + puned('a', 0x131), "xn--" + puned(0xfffd),
		// One that has what is not below 80.
		"xn--\u00fc", "xn--tda\u00fc", "xn--\u00fctda", "xn--\u00fc-tda", "XN--\u00dc", "\uff58n--\u00fc",
		// A mark at first, of a label that is not the first one too.
		"\u0301", "\u0301a", "\u0300\u00fc", "a.\u0301", "b.\u0300\u00fc", "\u00ad\u0301a", "a\u3002\u036f",
		// None of one label is none of all.
		"a.xn--a.b", "\u00fc.xn--.\u00fc", "xn--a.a", "a.b.\u0301",
	} {
		if got, ok := Domain(s); ok || got != "" {
			t.Errorf("Domain(%q) is %q, %v", s, got, ok)
		}
	}
}

// puned is puny's text of the signs l.
func puned(l ...int) string {
	s, ok := puny.Encode(l)
	if !ok {
		panic("no row")
	}
	return s
}

func TestP8_3AllSigns(t *testing.T) {
	m := stands()
	for c := range 0x110000 {
		if c >= 0x5000 && c < 0xd700 && c%61 != 0 || c > 0x20000 && c%509 != 0 {
			continue
		}
		r := string(rune(c))
		for _, s := range []string{r, "a" + r, r + "b.c", "a." + r, "\u00fc" + r + "\u0301"} {
			checkDomain(t, s, m)
		}
		// Any row behind xn--, those that are no labels too.
		if row, ok := puny.Encode([]int{c}); ok {
			checkDomain(t, "xn--"+row, m)
			row, _ = puny.Encode([]int{'a', c, 0xfc})
			checkDomain(t, "b.xn--"+row+".c", m)
		}
	}
}

func TestP8_3AllTexts(t *testing.T) {
	m := stands()
	for s := range pieced(5, []string{"xn--", "tda", "a", ".", "\u00fc", "\u0301", "\u00ad", "\u3002"}) {
		checkDomain(t, s, m)
	}
	for s := range pieced(3, []string{"XN", "x", "N", "-", "--", "n--", "kva", "bcher", "A", ".", "\uff0e", "\u00dc", "\u0130", "\u2100", "\u0307", "\u2060", "\u0080", "\xff", "\xc3", "\xbc", "\x00", "\uff0d", "9", "\U0001d7ff", "\u4e00"}) {
		checkDomain(t, s, m)
	}
	for c := range 256 {
		for d := range 256 {
			checkDomain(t, string([]byte{byte(c), byte(d)}), m)
			checkDomain(t, "xn--"+string([]byte{byte(c), byte(d)})+"a", m)
		}
	}
}

func TestP8_3Most(t *testing.T) {
	m := stands()
	for n := 250; n < 260; n++ {
		long := strings.Repeat("a", n-1)
		for _, s := range []string{long + "\u00fc", "\u00fc" + long, strings.Repeat("\u00fc", n), "a." + strings.Repeat("\u4e00", n) + ".b", strings.Repeat("\u00ad", 9) + long + "\u0101"} {
			got, ok := Domain(s)
			if ok != (n <= 255) || !ok && got != "" {
				t.Errorf("%d signs: %q, %v", n, got, ok)
			}
			checkDomain(t, s, m)
		}
		// Of signs below 80 there may be any number.
		if got, ok := Domain(long + "A." + long); !ok || got != long+"a."+long {
			t.Errorf("%d signs below 80: %q, %v", n, got, ok)
		}
		// A row behind xn-- has no more than 255 either.
		s := "xn--" + long + "-" + tail(strings.Repeat("a", 200)+"\u00fc")
		if _, ok := Domain(s); ok && n > 255 {
			t.Errorf("%q", s)
		}
		checkDomain(t, s, m)
	}
	// The signs are counted as they are mapped.
	if _, ok := Domain(strings.Repeat("a", 252) + "\u00fc\u0130"); !ok {
		t.Error("255 signs")
	}
	if _, ok := Domain(strings.Repeat("a", 253) + "\u00fc\u0130"); ok {
		t.Error("256 signs")
	}
}

func TestP8_3Long(t *testing.T) {
	for s, want := range map[string]string{
		strings.Repeat(".", 100000):           strings.Repeat(".", 100000),
		strings.Repeat("A", 100000):           strings.Repeat("a", 100000),
		strings.Repeat("\u00fc\u3002", 20000): strings.Repeat("xn--tda.", 20000),
		strings.Repeat("xN--TDA.", 20000):     strings.Repeat("xn--tda.", 20000),
		strings.Repeat("\u00ad", 100000):      "",
	} {
		if got, ok := Domain(s); !ok || got != want {
			t.Errorf("%d bytes: %d, %v", len(s), len(got), ok)
		}
	}
	for _, s := range []string{strings.Repeat("\u00fc", 100000), "xn--" + strings.Repeat("a", 100000), "xn--" + strings.Repeat("-", 100000), "xn--" + strings.Repeat("9", 100000), strings.Repeat("a.", 50000) + "xn--", strings.Repeat("\xff", 100000), strings.Repeat("a", 100000) + "\u0080"} {
		if got, ok := Domain(s); ok || got != "" {
			t.Errorf("%d bytes: %d, %v", len(s), len(got), ok)
		}
	}
}

// within tells whether a and b share memory.
func within(a, b string) bool {
	if a == "" || b == "" {
		return false
	}
	p, q := uintptr(unsafe.Pointer(unsafe.StringData(a))), uintptr(unsafe.Pointer(unsafe.StringData(b)))
	return p < q+uintptr(len(b)) && q < p+uintptr(len(a))
}

func TestP8_4NewMemory(t *testing.T) {
	for _, s := range []string{"nothing-to-change", "a.b", "xn--tda", "xn--bcher-kva.xn--tda", "b\u00fccher", strings.Repeat("ab.", 300)} {
		room := []byte(s)
		got, ok := Domain(unsafe.String(&room[0], len(room)))
		if !ok || string(room) != s {
			t.Fatalf("%q is changed", s)
		}
		if within(got, unsafe.String(&room[0], len(room))) {
			t.Errorf("Domain(%q) is shared", s)
		}
		want := strings.Clone(got)
		for i := range room {
			room[i] = 'z'
		}
		if got != want {
			t.Errorf("Domain(%q) is kept: %q", s, got)
		}
	}
}

func TestP8_4Unchanged(t *testing.T) {
	for _, s := range []string{"\u00fca", "abc", "\u0301\u00fc", "A.\u00dc"} {
		// With spare room, which is not to be written to either.
		l := append(signs(s), 1, 2, 3)
		whole := slices.Clone(l)
		Label(l[:len(l)-3])
		if !slices.Equal(l, whole) {
			t.Errorf("%x", l)
		}
	}
}

func TestP8_5ManyNames(t *testing.T) {
	m := stands()
	// Any numbers do, if they are the same each time.
	x := uint64(8)
	next := func(n int) int {
		x = x*6364136223846793005 + 1442695040888963407
		return int(x>>33) % n
	}
	pieces := []rune{'a', 'Z', '-', '.', 0xfc, 0xdc, 0xdf, 0x100, 0x101, 0x130, 0x301, 0x391, 0x3c9, 0x42f, 0x3002, 0xad, 0x2105, 0x2468, 0x3096, 0x9fff, 0xd7a3, 0xff21, 0x1d7ff, 0x1f300}
	names := 0
	for range 20000 {
		l := make([]rune, next(20))
		for i := range l {
			l[i] = pieces[next(len(pieces))]
		}
		if _, ok := Domain(string(l)); ok {
			names++
		}
		checkDomain(t, string(l), m)
	}
	if names < 1000 {
		t.Errorf("%d names", names)
	}
}
