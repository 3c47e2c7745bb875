package text

import (
	"math"
	"slices"
	"strings"
	"testing"
	"unsafe"
)

const replacement = "\xef\xbf\xbd"

// bytesOf is the bytes of the sign c, or nothing if c is none, as the
// document's words make them.
func bytesOf(c int) string {
	switch {
	case c < 0, c > 0x10ffff, 0xd800 <= c && c <= 0xdfff:
		return ""
	case c <= 0x7f:
		return raw(c)
	case c <= 0x7ff:
		return raw(0xc0+c/64, 0x80+c%64)
	case c <= 0xffff:
		return raw(0xe0+c/4096, 0x80+c%4096/64, 0x80+c%64)
	}
	return raw(0xf0+c/262144, 0x80+c%262144/4096, 0x80+c%4096/64, 0x80+c%64)
}

func raw(l ...int) string {
	var b []byte
	for _, n := range l {
		b = append(b, byte(n))
	}
	return string(b)
}

// known holds all signs by their bytes, and all true beginnings of such.
type known struct {
	signs  map[string]int
	begins map[string]bool
}

func learn() known {
	k := known{map[string]int{}, map[string]bool{}}
	for c := range 0x110000 {
		s := bytesOf(c)
		if s == "" {
			continue
		}
		k.signs[s] = c
		for n := 1; n < len(s); n++ {
			k.begins[s[:n]] = true
		}
	}
	return k
}

// first tells the sign at the front of s, and how many bytes it takes; ok
// says whether its bytes stand there.
func (k known) first(s string) (c, n int, ok bool) {
	for n := 1; n <= 4 && n <= len(s); n++ {
		if c, ok := k.signs[s[:n]]; ok {
			return c, n, true
		}
	}
	n = 1
	for m := 2; m <= 4 && m <= len(s); m++ {
		if k.begins[s[:m]] {
			n = m
		}
	}
	return 0xfffd, n, false
}

// check holds all that is answered of s against what is known.
func (k known) check(t *testing.T, s string) {
	t.Helper()
	var want strings.Builder
	var signs []int
	right := true
	for rest := s; rest != ""; {
		c, n, ok := k.first(rest)
		want.WriteString(bytesOf(c))
		signs = append(signs, c)
		right = right && ok
		rest = rest[n:]
	}
	got := Decode([]byte(s))
	if got != want.String() {
		t.Fatalf("Decode(%q) is %q, not %q", s, got, want.String())
	}
	if Right(s) != right {
		t.Fatalf("Right(%q) is not %v", s, right)
	}
	if l := Signs(s); !slices.Equal(l, signs) {
		t.Fatalf("Signs(%q) is %x, not %x", s, l, signs)
	}
	if !Right(got) || Decode([]byte(got)) != got || right != (got == s) {
		t.Fatalf("%q is decoded to %q", s, got)
	}
}

// The bytes at the edges of what stands where in signs' bytes.
const edges = "\x00A\x7f\x80\x8f\x90\x9f\xa0\xbd\xbf\xc0\xc1\xc2\xdf\xe0\xe2\xed\xee\xef\xf0\xf1\xf4\xf5\xff"

// texts yields all texts of up to four of the edges, all of two bytes, and
// some longer ones.
func texts(yield func(string) bool) {
	all := []string{""}
	for n := 0; n < len(all); n++ {
		if !yield(all[n]) {
			return
		}
		if len(all[n]) < 4 {
			for i := range len(edges) {
				all = append(all, all[n]+edges[i:i+1])
			}
		}
	}
	for n := range 0x10000 {
		if !yield(raw(n>>8, n&0xff)) {
			return
		}
	}
	for _, s := range []string{
		"plain words, and \u00e9\u20ac\U0001f600 in between",
		"\xf0\x9f\x98\xf0\x9f\x98\x80\xf0\x9f", "\xe2\x82\xe2\x82\xac\xe2", "\xf4\x8f\xbf\xed\x9f\xed\xa0\x80z",
		"\xef\xbf\xef\xbf\xbd\xbd", "\xef\xbf\xbd\xef\xbf\xbe\xef\xbf\xbf", "\xf8\x88\x80\x80\x80\xfc\x84\x80\x80\x80\x80",
		strings.Repeat("\xf0\x9f\x98", 700), strings.Repeat("\x80", 700), strings.Repeat("\ufffd\xff", 700),
	} {
		if !yield(s) {
			return
		}
	}
}

func TestP2_1Sign(t *testing.T) {
	for c := -0x400; c < 0x120000; c++ {
		want := bytesOf(c)
		if want == "" {
			want = replacement
		}
		if s := Sign(c); s != want {
			t.Fatalf("Sign(%x) is %q, not %q", c, s, want)
		}
	}
	for _, c := range []int{math.MinInt, math.MaxInt, math.MinInt32, math.MaxInt32, 1<<32 + 'a', -1<<32 + 'a', 1<<63 - 1<<32 + 0x20ac, math.MinInt + 'a', math.MaxUint32} {
		if s := Sign(c); s != replacement {
			t.Errorf("Sign(%x) is %q", c, s)
		}
	}
	for c, want := range map[int]string{'a': "a", 0xe9: "\xc3\xa9", 0x20ac: "\xe2\x82\xac", 0x1f600: "\xf0\x9f\x98\x80", 0xfffd: replacement} {
		if s := Sign(c); s != want {
			t.Errorf("Sign(%x) is %q, not %q", c, s, want)
		}
	}
}

func TestP2_2Decode(t *testing.T) {
	for _, x := range [][2]string{
		{"", ""},
		{"abc\x00\x7f", "abc\x00\x7f"},
		{"\xe2\x82A", replacement + "A"},
		{"\xc0\x80", replacement + replacement},
		{replacement, replacement},
		{"\xef\xbf", replacement},
		{"\xef\xbfA", replacement + "A"},
		{"\xf0\x9f\x98", replacement},
		{"\xf0\x9f\x98\xe2\x82\xac", replacement + "\u20ac"},
		{"\xed\xa0\x80", replacement + replacement + replacement},
		{"\xf4\x90", replacement + replacement},
		{"\xe0\x9f\xbf", replacement + replacement + replacement},
		{"\xf0\x8f\xbf\xbf", replacement + replacement + replacement + replacement},
		{"\x80\xff\xc2", replacement + replacement + replacement},
		{"\u20ac\xac", "\u20ac" + replacement},
	} {
		if s := Decode([]byte(x[0])); s != x[1] {
			t.Errorf("%q: %q, not %q", x[0], s, x[1])
		}
	}
	if s := Decode(nil); s != "" {
		t.Errorf("%q", s)
	}
}

func TestP2_2AllSigns(t *testing.T) {
	k := learn()
	for s, c := range k.signs {
		whole := "a" + s + s
		if got := Decode([]byte(whole)); got != whole {
			t.Fatalf("%q: %q", whole, got)
		}
		if !Right(whole) || !slices.Equal(Signs(whole), []int{'a', c, c}) {
			t.Fatalf("%q", whole)
		}
	}
	for s := range k.begins {
		for _, end := range []string{"", "A", "\u20ac", "\xff", s} {
			if end == s {
				end = s + "A"
			}
			k.check(t, s+end)
		}
	}
}

func TestP2_2P2_3AllTexts(t *testing.T) {
	k := learn()
	for s := range texts {
		k.check(t, s)
	}
}

func TestP2_3Right(t *testing.T) {
	for s, want := range map[string]bool{
		"": true, "a": true, "\x00": true, "\u00e9\u20ac\U0001f600": true, replacement: true, "\xf4\x8f\xbf\xbf": true, "\xed\x9f\xbf\xee\x80\x80": true,
		"\x80": false, "a\xc3": false, "\xc3a": false, "\xc1\xbf": false, "\xed\xbf\xbf": false, "\xf4\x90\x80\x80": false, "\u20ac\xff": false,
	} {
		if Right(s) != want {
			t.Errorf("%q is not %v", s, want)
		}
	}
}

func TestP2_3Signs(t *testing.T) {
	for _, x := range []struct {
		s    string
		want []int
	}{
		{"", nil},
		{"ab\x00", []int{'a', 'b', 0}},
		{"\u00e9\u20ac\U0001f600\U0010ffff", []int{0xe9, 0x20ac, 0x1f600, 0x10ffff}},
		{"\xe2\x82A", []int{0xfffd, 'A'}},
		{"\xc0\x80", []int{0xfffd, 0xfffd}},
		{replacement + "\xff", []int{0xfffd, 0xfffd}},
	} {
		if l := Signs(x.s); !slices.Equal(l, x.want) {
			t.Errorf("%q: %x, not %x", x.s, l, x.want)
		}
	}
}

// overlap tells whether the n bytes from p on and the m bytes from q on
// share one.
func overlap(p unsafe.Pointer, n int, q unsafe.Pointer, m int) bool {
	return n > 0 && m > 0 && uintptr(p) < uintptr(q)+uintptr(m) && uintptr(q) < uintptr(p)+uintptr(n)
}

func TestP2_4NewMemory(t *testing.T) {
	for _, s := range []string{"nothing to change \u20ac", "broken \xe2\x82 \xff", "a", replacement} {
		room := make([]byte, len(s)+8)
		copy(room, s+"--------")
		b := room[:len(s)]
		got := Decode(b)
		if string(room) != s+"--------" {
			t.Errorf("%q was changed to %q", s, room)
		}
		if overlap(unsafe.Pointer(unsafe.SliceData(b)), cap(b), unsafe.Pointer(unsafe.StringData(got)), len(got)) {
			t.Errorf("%q is shared", s)
		}
		once := strings.Clone(got)
		for i := range room {
			room[i] = '#'
		}
		if got != once || Decode([]byte(s)) != once {
			t.Errorf("%q is kept", s)
		}
	}
}

func TestP2_4NewLists(t *testing.T) {
	s := "a\u20ac\xff"
	l := Signs(s)
	m := Signs(s)
	for i := range l[:cap(l)] {
		l[:cap(l)][i] = -1
	}
	if want := []int{'a', 0x20ac, 0xfffd}; !slices.Equal(m, want) || !slices.Equal(Signs(s), want) {
		t.Errorf("%x", m)
	}
}

func TestP2_5RightStays(t *testing.T) {
	for _, s := range []string{"", "a\x00", "\u00e9\u20ac\U0001f600", replacement, "\uffff\ue000\ud7ff"} {
		if !Right(s) || Decode([]byte(s)) != s {
			t.Errorf("%q", s)
		}
	}
	for _, s := range []string{"\xff", "\xc3", "\xe2\x82\xe2\x82\xac", "\xed\xa0\x80", "\xf4\x90\x80\x80"} {
		once := Decode([]byte(s))
		if Right(s) || !Right(once) || Decode([]byte(once)) != once {
			t.Errorf("%q: %q", s, once)
		}
	}
}
