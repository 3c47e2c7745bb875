package puny

import (
	"math"
	"math/big"
	"slices"
	"strings"
	"testing"
	"unsafe"
)

// signs is the signs of s, which is right.
func signs(s string) []int {
	var l []int
	for _, r := range s {
		l = append(l, int(r))
	}
	return l
}

// nextBias is the next bias as the document's words tell it.
func nextBias(d, n int, first bool) int {
	e := d / 2
	if first {
		e = d / 700
	}
	f := e + e/n
	times := 0
	for f > 455 {
		f /= 35
		times++
	}
	return 36*times + 36*f/(f+38)
}

// boundOf is the bound of a number's j-th digit.
func boundOf(j, bias int) int {
	b := 36*(j+1) - bias
	if b < 1 {
		return 1
	}
	if b > 26 {
		return 26
	}
	return b
}

// worthOf is what a digit is worth; below 0, if it is none.
func worthOf(c byte) int {
	switch {
	case c >= 'a' && c <= 'z':
		return int(c - 'a')
	case c >= 'A' && c <= 'Z':
		return int(c - 'A')
	case c >= '0' && c <= '9':
		return int(c-'0') + 26
	}
	return -1
}

// isSign tells whether c is a sign, as layer 2's words tell it.
func isSign(c int) bool {
	return c >= 0 && c <= 0x10ffff && (c < 0xd800 || c > 0xdfff)
}

// decoded reads s as the document's words tell it, with numbers of any size.
func decoded(s string) ([]int, bool) {
	for i := range len(s) {
		if s[i] > 127 {
			return nil, false
		}
	}
	var l []int
	rest := s
	for i := len(s) - 1; i > 0; i-- {
		if s[i] == '-' {
			for _, c := range []byte(s[:i]) {
				l = append(l, int(c))
			}
			rest = s[i+1:]
			break
		}
	}
	p, c, bias, first := 0, 128, 72, true
	for len(rest) > 0 {
		number, weight, last := new(big.Int), big.NewInt(1), false
		j := 0
		for ; j < len(rest) && !last; j++ {
			w, b := worthOf(rest[j]), boundOf(j, bias)
			if w < 0 {
				return nil, false
			}
			number.Add(number, new(big.Int).Mul(weight, big.NewInt(int64(w))))
			weight.Mul(weight, big.NewInt(int64(36-b)))
			last = w < b
		}
		if !last || number.Cmp(big.NewInt(2147483647)) > 0 {
			return nil, false
		}
		rest = rest[j:]
		d := int(number.Int64())
		p += d
		n := len(l)
		c += p / (n + 1)
		p %= n + 1
		if !isSign(c) {
			return nil, false
		}
		l = append(l[:p:p], append([]int{c}, l[p:]...)...)
		p++
		bias = nextBias(d, n+1, first)
		first = false
	}
	if len(l) > 255 {
		return nil, false
	}
	return l, true
}

// encoded writes l by going through all of it for each sign that it has, as
// numbers are told that step over signs and places one by one.
func encoded(l []int) string {
	var out []byte
	for _, c := range l {
		if c < 128 {
			out = append(out, byte(c))
		}
	}
	n := len(out)
	if n > 0 {
		out = append(out, '-')
	}
	kinds := slices.Clone(l)
	slices.Sort(kinds)
	kinds = slices.Compact(kinds)
	was, d, bias, first := 128, 0, 72, true
	for _, m := range kinds {
		if m < 128 {
			continue
		}
		d += (m - was) * (n + 1)
		was = m
		for _, c := range l {
			if c < m {
				d++
			}
			if c != m {
				continue
			}
			out = append(out, spelt(d, bias)...)
			n++
			bias = nextBias(d, n, first)
			first = false
			d = 0
		}
		d++
		was++
	}
	return string(out)
}

// spelt is the digits of d.
func spelt(d, bias int) string {
	const all = "abcdefghijklmnopqrstuvwxyz0123456789"
	s := ""
	for j := 0; ; j++ {
		b := boundOf(j, bias)
		if d < b {
			return s + all[d:d+1]
		}
		s += all[b+(d-b)%(36-b):][:1]
		d = (d - b) / (36 - b)
	}
}

// checkText holds Decode of s against what it is to be, and what is read
// against its text.
func checkText(t *testing.T, s string) {
	t.Helper()
	want, is := decoded(s)
	got, ok := Decode(s)
	if ok != is || !slices.Equal(got, want) {
		t.Fatalf("Decode(%q) is %x, %v, not %x, %v", s, got, ok, want, is)
	}
	if !ok {
		return
	}
	// P7.4: it is the only text, but for large letters among the digits.
	back, ok := Encode(got)
	if !ok || back != small(s) {
		t.Fatalf("Encode(%x) is %q, %v, not %q", got, back, ok, small(s))
	}
}

// small is s, its numbers' digits without large letters.
func small(s string) string {
	i := strings.LastIndexByte(s, '-')
	if i < 1 {
		return strings.ToLower(s)
	}
	return s[:i] + strings.ToLower(s[i:])
}

// checkRow holds Encode of l against what it is to be, and its text against l.
func checkRow(t *testing.T, l []int) {
	t.Helper()
	want := encoded(l)
	got, ok := Encode(l)
	if !ok || got != want {
		t.Fatalf("Encode(%x) is %q, %v, not %q", l, got, ok, want)
	}
	if back, ok := Decode(got); !ok || !slices.Equal(back, l) {
		t.Fatalf("Decode(%q) is %x, %v, not %x", got, back, ok, l)
	}
	if got != small(got) {
		t.Fatalf("%q has large letters", got)
	}
}

// pieced yields all texts of up to most of the pieces.
func pieced(most int, pieces []string) func(func(string) bool) {
	return func(yield func(string) bool) {
		all := []string{""}
		from := 0
		for n := 0; n <= most; n++ {
			to := len(all)
			for _, s := range all[from:to] {
				if !yield(s) {
					return
				}
				if n == most {
					continue
				}
				for _, p := range pieces {
					all = append(all, s+p)
				}
			}
			from = to
		}
	}
}

// rows is rows and their texts, as they are known.
func rows() map[string]string {
	return map[string]string{
		"": "", "a": "a-", "-": "--", "--": "---", "a-b": "a-b-", "\x00": "\x00-", "\x7f": "\x7f-", "A Z": "A Z-",
		"\u00fc": "tda", "b\u00fccher": "bcher-kva", "\u0080": "a", "\u0081": "ba", "\u0080\u0080": "aa", "-\u00fc": "--eha",
		"ma\u00f1ana":              "maana-pta",
		"\u0645\u062b\u0627\u0644": "mgbh0fb",
		"\u4ed6\u4eec\u4e3a\u4ec0\u4e48\u4e0d\u8bf4\u4e2d\u6587":                                                 "ihqwcrb4cv8a8dqg056pqjye",
		"\u0644\u064a\u0647\u0645\u0627\u0628\u062a\u0643\u0644\u0645\u0648\u0634\u0639\u0631\u0628\u064a\u061f": "egbpdaj6bu4bxfgehfvwxn",
		"Pro\u010dprost\u011bnemluv\u00ed\u010desky":                                                             "Proprostnemluvesky-uyb24dma41a",
		"3\u5e74B\u7d44\u91d1\u516b\u5148\u751f":                                                                 "3B-ww4c5e180e575a65lsy2b",
		"\u5b89\u5ba4\u5948\u7f8e\u6075-with-SUPER-MONKEYS":                                                      "-with-SUPER-MONKEYS-pc58ag80a8qai00g7n9n",
		"\u305d\u306e\u30b9\u30d4\u30fc\u30c9\u3067":                                                             "d9juau41awczczp",
	}
}

func TestP7_1Rows(t *testing.T) {
	for row, s := range rows() {
		got, ok := Decode(s)
		if !ok || !slices.Equal(got, signs(row)) {
			t.Errorf("Decode(%q) is %x, %v, not %x", s, got, ok, signs(row))
		}
	}
}

func TestP7_1Digits(t *testing.T) {
	// Large letters are worth what small ones are.
	for _, s := range []string{"TDA", "tDa", "bcher-KVA", "bcher-kVa", "EGBPDAJ6BU4BXFGEHFVWXN"} {
		got, ok := Decode(s)
		want, _ := Decode(small(s))
		if !ok || len(want) == 0 || !slices.Equal(got, want) {
			t.Errorf("Decode(%q) is %x, %v", s, got, ok)
		}
	}
	// Among the first signs they are signs of their own.
	if got, ok := Decode("BCHER-kva"); !ok || string(rune(got[1])) != "\u00fc" || got[0] != 'B' {
		t.Errorf("%x, %v", got, ok)
	}
	for c := range 256 {
		for _, s := range []string{string([]byte{byte(c)}), "td" + string([]byte{byte(c)}), "t" + string([]byte{byte(c)}) + "a", "bcher-" + string([]byte{byte(c)}) + "va", string([]byte{byte(c)}) + "-", "a" + string([]byte{byte(c)}) + "-kva", string([]byte{byte(c), byte(c)})} {
			checkText(t, s)
		}
	}
}

func TestP7_1Hyphens(t *testing.T) {
	for s, want := range map[string]string{"a-": "a", "--": "-", "---": "--", "-a-": "-a", "a-b-": "a-b", "a--": "a-", "a-b-kva": "a\u013a-b"} {
		got, ok := Decode(s)
		if !ok || !slices.Equal(got, signs(want)) {
			t.Errorf("Decode(%q) is %x, %v", s, got, ok)
		}
	}
	for _, s := range []string{"-", "-a", "-kva", "-tda"} {
		if got, ok := Decode(s); ok || got != nil {
			t.Errorf("Decode(%q) is %x, %v", s, got, ok)
		}
	}
}

func TestP7_1Wrong(t *testing.T) {
	for _, s := range []string{
		// What is no digit.
		"a_", "t da", "tda ", " tda", "tda.", "a/", "a:", "a@", "a[", "a`", "a{", "a\x00", "bcher-kv!a",
		// A byte above 127, wherever it stands.
		"\x80", "\xff", "tda\xfc", "b\xfccher-", "b\u00fccher-kva", "bcher-kva\x80", "\xc3-", "\x80-a", "-\x80-a",
		// No last digit.
		"z", "9", "t", "td", "tda9999", "bcher-k", "bcher-kv", "99999", "bcher-9",
		// Too great.
		"99999999", "a-99999999", strings.Repeat("9", 20), strings.Repeat("9", 100), strings.Repeat("9", 100) + "a", strings.Repeat("z", 70000) + "a", "a-" + strings.Repeat("9", 13) + "a",
	} {
		if got, ok := Decode(s); ok || got != nil {
			t.Errorf("Decode(%q) is %x, %v", s, got, ok)
		}
	}
}

func TestP7_1Great(t *testing.T) {
	// Numbers that would be small ones again, if they wrapped round.
	for _, power := range []uint{31, 32, 33, 63, 64, 65, 128} {
		for _, more := range []int64{-1, 0, 1, 124, 1000} {
			d := new(big.Int).Lsh(big.NewInt(1), power)
			d.Add(d, big.NewInt(more))
			for _, s := range []string{speltBig(d), "bcher-" + speltBig(d), "aaa-" + speltBig(d) + "a"} {
				if got, ok := Decode(s); ok || got != nil {
					t.Errorf("Decode(%q) is %x, %v", s, got, ok)
				}
			}
		}
	}
	if got := speltBig(big.NewInt(745)); got != "kva" {
		t.Errorf("%q", got)
	}
}

// speltBig is the digits of d, of whatever size, as a row's first number.
func speltBig(d *big.Int) string {
	const all = "abcdefghijklmnopqrstuvwxyz0123456789"
	s := ""
	for j := 0; ; j++ {
		b := boundOf(j, 72)
		if d.Cmp(big.NewInt(int64(b))) < 0 {
			return s + all[d.Int64():][:1]
		}
		rest, worth := new(big.Int).DivMod(new(big.Int).Sub(d, big.NewInt(int64(b))), big.NewInt(int64(36-b)), new(big.Int))
		s += all[b+int(worth.Int64()):][:1]
		d = rest
	}
}

func TestP7_1NoSign(t *testing.T) {
	for c, want := range map[int]bool{0x80: true, 0xd7ff: true, 0xd800: false, 0xdbff: false, 0xdfff: false, 0xe000: true, 0xfffd: true, 0x10ffff: true, 0x110000: false, 0x110001: false, 0x1fffff: false, 2147483647: false} {
		s := spelt(c-128, 72)
		got, ok := Decode(s)
		if ok != want || ok && !slices.Equal(got, []int{c}) || !ok && got != nil {
			t.Errorf("%x: Decode(%q) is %x, %v", c, s, got, ok)
		}
	}
	// The second one goes on from the first one, which is a sign.
	for more, want := range map[int]bool{0x10ffff: true, 0x110000: false} {
		s := spelt(0x10fffe-128, 72)
		s += spelt((more-0x10fffe)*2-1, nextBias(0x10fffe-128, 1, true))
		if got, ok := Decode(s); ok != want {
			t.Errorf("%x: Decode(%q) is %x, %v", more, s, got, ok)
		}
	}
	// No sign is one even where another one would be told behind it.
	s := spelt(0xd800-128, 72)
	s += spelt((0xe000-0xd800)*2-1, nextBias(0xd800-128, 1, true))
	if got, ok := Decode(s); ok || got != nil {
		t.Errorf("Decode(%q) is %x, %v", s, got, ok)
	}
}

func TestP7_1Most(t *testing.T) {
	for n := 250; n < 260; n++ {
		for _, s := range []string{strings.Repeat("a", n), strings.Repeat("a", n) + "-", strings.Repeat("\x00", n) + "-", strings.Repeat("-", n+1), strings.Repeat("a", n-1) + "-a", strings.Repeat("a", n-3) + "-aaa"} {
			got, ok := Decode(s)
			if ok != (n <= 255) || ok && len(got) != n || !ok && got != nil {
				t.Errorf("Decode(%q) is %d signs, %v", s, len(got), ok)
			}
			checkText(t, s)
		}
	}
	for _, s := range []string{strings.Repeat("a", 100000), strings.Repeat("a", 100000) + "-", strings.Repeat("-", 100000), strings.Repeat("ab9", 50000)} {
		if got, ok := Decode(s); ok || got != nil {
			t.Errorf("%d signs, %v", len(got), ok)
		}
	}
}

func TestP7_2Rows(t *testing.T) {
	for row, want := range rows() {
		if got, ok := Encode(signs(row)); !ok || got != want {
			t.Errorf("Encode(%q) is %q, %v, not %q", row, got, ok, want)
		}
	}
}

func TestP7_2Wrong(t *testing.T) {
	for _, c := range []int{-1, -128, 0xd800, 0xdabc, 0xdfff, 0x110000, 1 << 31, 1<<32 + 'a', 1<<32 + 0xfc, -1 << 32, math.MaxInt, math.MinInt, math.MinInt + 'a'} {
		for _, l := range [][]int{{c}, {'a', c}, {c, 'a'}, {0xfc, c}, {c, 0xfc}, {'a', 0xfc, c, 'b'}, append(make([]int, 254), c)} {
			if got, ok := Encode(l); ok || got != "" {
				t.Errorf("Encode(%x) is %q, %v", l, got, ok)
			}
		}
	}
	for _, c := range []int{0, 0x7f, 0x80, 0xd7ff, 0xe000, 0xfffd, 0xffff, 0x10000, 0x10fffe, 0x10ffff} {
		checkRow(t, []int{c})
		checkRow(t, []int{'a', c, c, 0x10ffff})
	}
}

func TestP7_2Most(t *testing.T) {
	for _, c := range []int{0, 'a', '-', 0x80, 0xfc, 0xffff, 0x10ffff} {
		l := slices.Repeat([]int{c}, 255)
		checkRow(t, l)
		l[254] = 0x10ffff
		checkRow(t, l)
		l[0] = 'b'
		checkRow(t, l)
		for _, n := range []int{256, 257, 1000, 100000} {
			if got, ok := Encode(slices.Repeat([]int{c}, n)); ok || got != "" {
				t.Errorf("%d times %x: %q, %v", n, c, got, ok)
			}
		}
	}
}

func TestP7_4AllTexts(t *testing.T) {
	for s := range pieced(5, []string{"a", "b", "k", "z", "0", "9", "K", "-"}) {
		checkText(t, s)
	}
	for s := range pieced(3, []string{"tda", "kva", "-", "a", "Z", "4", "9", "z9", "_", "\xfc", "\x7f", "x", "y"}) {
		checkText(t, s)
	}
	const all = "abcdefghijklmnopqrstuvwxyz0123456789-"
	for s := range pieced(3, strings.Split(all, "")) {
		checkText(t, s)
		checkText(t, "x-"+s)
	}
}

func TestP7_4AllRows(t *testing.T) {
	for s := range pieced(5, []string{"a", "-", "\u0080", "\u0081", "\u00fc", "\ud7ff", "\U0010ffff"}) {
		checkRow(t, signs(s))
	}
	for c := range 0x110000 {
		if isSign(c) && (c < 0x3000 || c%37 == 0) {
			checkRow(t, []int{c})
			checkRow(t, []int{'b', c, 0x4e00, c})
		}
	}
}

func TestP7_4ManyRows(t *testing.T) {
	// Any numbers do, if they are the same each time.
	x := uint64(7)
	next := func(n int) int {
		x = x*6364136223846793005 + 1442695040888963407
		return int(x>>33) % n
	}
	ends := []int{0x80, 0x100, 0x250, 0x800, 0x3000, 0xd000, 0x10000, 0x110000}
	for range 4000 {
		l := make([]int, next(40))
		end := ends[next(len(ends))]
		for i := range l {
			if l[i] = next(end); !isSign(l[i]) {
				l[i] = 0xe000
			}
		}
		checkRow(t, l)
	}
}

// within tells whether a and b share memory.
func within[A, B any](a []A, b []B) bool {
	if cap(a) == 0 || cap(b) == 0 {
		return false
	}
	var x A
	var y B
	p, q := uintptr(unsafe.Pointer(unsafe.SliceData(a))), uintptr(unsafe.Pointer(unsafe.SliceData(b)))
	return p < q+uintptr(cap(b))*unsafe.Sizeof(y) && q < p+uintptr(cap(a))*unsafe.Sizeof(x)
}

func TestP7_3NewMemory(t *testing.T) {
	for _, s := range []string{"abc-", "bcher-kva", "tda", "3B-ww4c5e180e575a65lsy2b"} {
		room := []byte(s)
		l, ok := Decode(unsafe.String(&room[0], len(room)))
		if !ok || string(room) != s || within(l, room) {
			t.Fatalf("%q", room)
		}
		whole := slices.Clone(l)
		for i := range room {
			room[i] = 'z'
		}
		if !slices.Equal(l, whole) {
			t.Errorf("%q: %x", s, l)
		}
		again, _ := Decode(s)
		if within(l, again) {
			t.Errorf("%q is kept", s)
		}
	}
}

func TestP7_3Unchanged(t *testing.T) {
	for row := range rows() {
		l := signs(row)
		// With spare room, which is not to be written to either.
		l = append(l, 1, 2, 3)
		whole := slices.Clone(l)
		s, ok := Encode(l[:len(l)-3])
		if !ok || !slices.Equal(l, whole) || within([]byte(s), l) {
			t.Errorf("%x", l)
		}
		want := strings.Clone(s)
		clear(l)
		if s != want {
			t.Errorf("%q", s)
		}
	}
}
