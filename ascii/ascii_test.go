package ascii

import (
	"math"
	"slices"
	"strings"
	"testing"
	"unsafe"
)

// The bytes at the edges of what the promises tell apart, and some that no
// promise touches.
const edges = "\x00\t\n\v\f\r\x1f !aZ\x7f\x85\xa0\xff"

// texts yields all texts of up to four of these bytes, and some longer ones.
func texts(yield func(string) bool) {
	all := []string{""}
	for n := 0; n < len(all); n++ {
		if !yield(all[n]) {
			return
		}
		if len(all[n]) == 4 {
			continue
		}
		for i := range len(edges) {
			all = append(all, all[n]+edges[i:i+1])
		}
	}
	for _, s := range []string{
		" \x00 a b\tc \x1f\n", "\u00a0\u2003 x \u0085", "\xe2\x80\x83 y \xc2",
		strings.Repeat(" ab\t", 300), strings.Repeat("\x01\n", 300), strings.Repeat("Q", 3000),
	} {
		if !yield(s) {
			return
		}
	}
}

// bytesOf gives the bytes that the question is true of.
func bytesOf(is func(byte) bool) string {
	var b []byte
	for k := range 256 {
		if is(byte(k)) {
			b = append(b, byte(k))
		}
	}
	return string(b)
}

func TestP1_1Blank(t *testing.T) {
	if s := bytesOf(Blank); s != "\x09\x0a\x0c\x0d\x20" {
		t.Errorf("%q", s)
	}
}

func TestP1_1Letter(t *testing.T) {
	want := "ABCDEFGHIJKLMNOPQRSTUVWXYZabcdefghijklmnopqrstuvwxyz"
	if s := bytesOf(Letter); s != want {
		t.Errorf("%q", s)
	}
}

func TestP1_2Digit(t *testing.T) {
	bases := []int{math.MinInt, -36, -1, 0, 36, 37, 255, 256, math.MaxInt}
	for base := 1; base < 36; base++ {
		bases = append(bases, base)
	}
	for _, base := range bases {
		for k := range 256 {
			c := byte(k)
			want := strings.IndexByte("0123456789abcdefghijklmnopqrstuvwxyz", c)
			if want < 0 {
				want = strings.IndexByte("0123456789ABCDEFGHIJKLMNOPQRSTUVWXYZ", c)
			}
			if want >= base {
				want = -1
			}
			if n := Digit(c, base); n != want {
				t.Errorf("Digit(%q, %d) is %d, not %d", c, base, n, want)
			}
		}
	}
}

func TestP1_3Lower(t *testing.T) {
	for k := range 256 {
		want := byte(k)
		if i := strings.IndexByte("ABCDEFGHIJKLMNOPQRSTUVWXYZ", want); i >= 0 {
			want = "abcdefghijklmnopqrstuvwxyz"[i]
		}
		s := "x" + string([]byte{byte(k)}) + "Y"
		if got := Lower(s); got != "x"+string([]byte{want})+"y" {
			t.Errorf("%q: %q", s, got)
		}
	}
	for _, x := range [][2]string{
		{"", ""}, {"Ab-Z09", "ab-z09"}, {"@[`{", "@[`{"},
		{"\u00c9\u212a\u0130", "\u00c9\u212a\u0130"}, {"\xc3A\xff", "\xc3a\xff"},
	} {
		if got := Lower(x[0]); got != x[1] {
			t.Errorf("%q: %q", x[0], got)
		}
	}
}

func TestP1_4Trim(t *testing.T) {
	ends := bytesOf(func(c byte) bool { return c < 0x21 })
	for s := range texts {
		if got := Trim(s); got != strings.Trim(s, ends) {
			t.Errorf("%q: %q", s, got)
		}
	}
	for k := range 256 {
		c := string([]byte{byte(k)})
		want := "a" + c + "b"
		if k > 0x20 {
			want = c + want + c
		}
		if got := Trim(c + "a" + c + "b" + c); got != want {
			t.Errorf("%q: %q", c, got)
		}
	}
}

func TestP1_4Strip(t *testing.T) {
	for s := range texts {
		if got := Strip(s); got != strings.Trim(s, "\t\n\f\r ") {
			t.Errorf("%q: %q", s, got)
		}
	}
	if got := Strip(" \va \f b\x00\r"); got != "\va \f b\x00" {
		t.Errorf("%q", got)
	}
}

func TestP1_4Tight(t *testing.T) {
	without := strings.NewReplacer("\t", "", "\n", "", "\r", "")
	for s := range texts {
		if got := Tight(s); got != without.Replace(s) {
			t.Errorf("%q: %q", s, got)
		}
	}
	if got := Tight("\t\r\n \fj\na\tv\ra \v\n"); got != " \fjava \v" {
		t.Errorf("%q", got)
	}
}

func TestP1_5Words(t *testing.T) {
	for _, x := range []struct {
		s    string
		want []string
	}{
		{"", nil},
		{" \t\n\f\r", nil},
		{" ab  c", []string{"ab", "c"}},
		{"ab", []string{"ab"}},
		{"a\tb\nc\fd\re f", []string{"a", "b", "c", "d", "e", "f"}},
		{"a,b\v\x00c\u00a0d ", []string{"a,b\v\x00c\u00a0d"}},
		{"\xff \xe2\x80", []string{"\xff", "\xe2\x80"}},
	} {
		if got := Words(x.s); !slices.Equal(got, x.want) {
			t.Errorf("%q: %q", x.s, got)
		}
	}
	for s := range texts {
		checkWords(t, s, Words(s))
	}
}

// checkWords holds l against the words of s, found anew: each is without a
// blank, not empty, stands between blanks or ends, and only blanks are left.
func checkWords(t *testing.T, s string, l []string) {
	t.Helper()
	rest := s
	for _, w := range l {
		rest = strings.TrimLeft(rest, "\t\n\f\r ")
		if w == "" || strings.ContainsAny(w, "\t\n\f\r ") || !strings.HasPrefix(rest, w) {
			t.Fatalf("%q: %q", s, l)
		}
		rest = rest[len(w):]
		if rest != "" && !strings.Contains("\t\n\f\r ", rest[:1]) {
			t.Fatalf("%q: %q is not the longest", s, w)
		}
	}
	if strings.Trim(rest, "\t\n\f\r ") != "" {
		t.Fatalf("%q: %q leaves %q", s, l, rest)
	}
}

func TestP1_6Again(t *testing.T) {
	for _, call := range []func(string) string{Lower, Trim, Strip, Tight} {
		for s := range texts {
			if once := call(s); call(once) != once {
				t.Errorf("%q: %q, and then %q", s, once, call(once))
			}
		}
	}
	for s := range texts {
		for _, w := range Words(s) {
			if Strip(w) != w {
				t.Errorf("%q", w)
			}
		}
	}
}

// within tells whether a and b share memory.
func within(a, b string) bool {
	if a == "" || b == "" {
		return false
	}
	p, q := uintptr(unsafe.Pointer(unsafe.StringData(a))), uintptr(unsafe.Pointer(unsafe.StringData(b)))
	return p < q+uintptr(len(b)) && q < p+uintptr(len(a))
}

func TestW6NewMemory(t *testing.T) {
	for _, s := range []string{"nothing-to-change", " ends ", "Some WORDS\tin lines\n"} {
		for i, call := range []func(string) string{Lower, Trim, Strip, Tight} {
			if within(s, call(s)) {
				t.Errorf("call %d shares memory with %q", i, s)
			}
		}
		for _, w := range Words(s) {
			if within(s, w) {
				t.Errorf("word %q shares memory with %q", w, s)
			}
		}
	}
}
