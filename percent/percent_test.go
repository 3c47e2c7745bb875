package percent

import (
	"math"
	"slices"
	"strings"
	"testing"
	"unsafe"

	"tamis/api"
)

// signs is the bytes from 20 to 7e that are in each set, by the set's
// number, as the document's words name them, each set whole.
func signs() []string {
	return []string{
		"",
		" \"<>`",
		" \"#<>",
		" \"#<>'",
		" \"#<>?^`{}",
		" \"#<>?^`{}/:;=@[\\]|",
		" \"#<>?^`{}/:;=@[\\]|$%&+,",
	}
}

// known tells whether c is in the set, by the document's words.
func known(set int, c byte) bool {
	if set < 0 || set >= api.Sets {
		return false
	}
	return c < 0x20 || c > 0x7e || strings.Contains(signs()[set], string([]byte{c}))
}

// Numbers that are not those of sets, among them some that would be one if
// they were cut short.
var strange = []int{-1, -7, api.Sets, 8, 9, 255, 256, 1 << 32, 1<<32 + 4, -1<<32 + 6, math.MaxInt, math.MinInt, math.MinInt + 5, math.MaxInt32}

func TestP3_1In(t *testing.T) {
	for set := range api.Sets {
		for c := range 256 {
			if got := In(set, byte(c)); got != known(set, byte(c)) {
				t.Errorf("In(%d, %x) is %v", set, c, got)
			}
		}
	}
}

func TestP3_1NoSet(t *testing.T) {
	for _, set := range strange {
		for c := range 256 {
			if In(set, byte(c)) {
				t.Errorf("In(%d, %x)", set, c)
			}
		}
	}
}

func TestP3_1Numbers(t *testing.T) {
	for _, x := range []struct {
		set     int
		in, out string
	}{
		{api.SetControl, "\x00\x1f\x7f\x80\xff", " ~!%`"},
		{api.SetFragment, " \"<>`\x00\x7f\xff", "#'?{}~"},
		{api.SetQuery, " \"#<>\x1f\x80", "'`?{}~"},
		{api.SetSpecial, " \"#<>'", "`?&~"},
		{api.SetPath, " \"#<>?^`{}", "'/%|~"},
		{api.SetUser, "?^`{}/:;=@[\\]|", "'$%&+,~"},
		{api.SetComponent, "/:;=@[\\]|$%&+,", "'!()*-._~"},
	} {
		for i := range len(x.in) {
			if !In(x.set, x.in[i]) {
				t.Errorf("In(%d, %q) is false", x.set, x.in[i])
			}
		}
		for i := range len(x.out) {
			if In(x.set, x.out[i]) {
				t.Errorf("In(%d, %q) is true", x.set, x.out[i])
			}
		}
	}
}

func TestP3_2Encode(t *testing.T) {
	for _, x := range []struct {
		s    string
		set  int
		want string
	}{
		{"", api.SetComponent, ""},
		{"plain", api.SetComponent, "plain"},
		{"a b", api.SetQuery, "a%20b"},
		{"a b", api.SetControl, "a b"},
		{"\x00\n\x1f ~\x7f\x80\xff", api.SetControl, "%00%0A%1F ~%7F%80%FF"},
		{"caf\u00e9?", api.SetPath, "caf%C3%A9%3F"},
		{"100%41", api.SetUser, "100%41"},
		{"100%41", api.SetComponent, "100%2541"},
		{"<a href='x'>", api.SetQuery, "%3Ca%20href='x'%3E"},
		{"<a href='x'>", api.SetSpecial, "%3Ca%20href=%27x%27%3E"},
		{"`#", api.SetFragment, "%60#"},
		{"u:p@h/[\\]", api.SetUser, "u%3Ap%40h%2F%5B%5C%5D"},
		{"a,b+c&d$", api.SetComponent, "a%2Cb%2Bc%26d%24"},
		{" \xff", 7, " \xff"},
		{" \xff", -1, " \xff"},
	} {
		if s := Encode(x.s, x.set); s != x.want {
			t.Errorf("Encode(%q, %d) is %q, not %q", x.s, x.set, s, x.want)
		}
	}
}

func TestP3_2EachByte(t *testing.T) {
	const digits = "0123456789ABCDEF"
	for _, set := range append([]int{0, 1, 2, 3, 4, 5, 6}, strange...) {
		all, want := "", ""
		for n := range 256 {
			one := string([]byte{byte(n)})
			all += one
			if known(set, byte(n)) {
				one = "%" + digits[n/16:n/16+1] + digits[n%16:n%16+1]
			}
			want += one
		}
		if s := Encode(all, set); s != want {
			t.Errorf("%d: %q, not %q", set, s, want)
		}
	}
}

func TestP3_3Decode(t *testing.T) {
	for in, want := range map[string]string{
		"":               "",
		"plain":          "plain",
		"%41":            "A",
		"a%20b":          "a b",
		"%4a%4A%aF%Fa":   "JJ\xaf\xfa",
		"%00%ff%FF%fF":   "\x00\xff\xff\xff",
		"%c3%a9":         "\u00e9",
		"%2541":          "%41",
		"%25%34%31":      "%41",
		"%%34%31":        "%41",
		"%%341":          "%41",
		"%252541":        "%2541",
		"%":              "%",
		"%%":             "%%",
		"%%%41":          "%%A",
		"%4":             "%4",
		"%4%41":          "%4A",
		"%4g":            "%4g",
		"%g4":            "%g4",
		"%G0%0G":         "%G0%0G",
		"%-1%+1%0x41% 4": "%-1%+1%0x41% 4",
		"% 41":           "% 41",
		"%4\r1":          "%4\r1",
		"%4\xb1":         "%4\xb1",
		"%:0%/0%@0%`0":   "%:0%/0%@0%`0",
		"+\xff\x00":      "+\xff\x00",
		"a%4":            "a%4",
		"%41%":           "A%",
	} {
		if b := Decode(in); string(b) != want {
			t.Errorf("Decode(%q) is %q, not %q", in, b, want)
		}
	}
}

// worth is what c is worth as a digit of base 16, or -1.
func worth(c byte) int {
	n := strings.IndexByte("0123456789abcdef", c)
	if n < 0 {
		n = strings.IndexByte("0123456789ABCDEF", c)
	}
	return n
}

// decoded is s, with the first byte that is told by percent read, and what
// stands behind it decoded for itself.
func decoded(s string) string {
	for i, n := 0, len(s); i < n; i++ {
		if i+2 < n && s[i] == '%' && worth(s[i+1]) >= 0 && worth(s[i+2]) >= 0 {
			return s[:i] + string([]byte{byte(worth(s[i+1])*16 + worth(s[i+2]))}) + decoded(s[i+3:])
		}
	}
	return s
}

func TestP3_3EachPair(t *testing.T) {
	for n := range 0x10000 {
		s := "x%" + string([]byte{byte(n >> 8), byte(n)}) + "y"
		if b := Decode(s); string(b) != decoded(s) {
			t.Fatalf("Decode(%q) is %q, not %q", s, b, decoded(s))
		}
	}
}

// texts yields all texts of up to six of some bytes at the edges.
func texts(yield func(string) bool) {
	const edges = "%25afAgG\xff"
	all := []string{""}
	for n := 0; n < len(all); n++ {
		if !yield(all[n]) {
			return
		}
		if len(all[n]) < 6 {
			for i := range len(edges) {
				all = append(all, all[n]+edges[i:i+1])
			}
		}
	}
}

func TestP3_3AllTexts(t *testing.T) {
	for s := range texts {
		if b := Decode(s); string(b) != decoded(s) {
			t.Fatalf("Decode(%q) is %q, not %q", s, b, decoded(s))
		}
	}
}

// overlap tells whether the n bytes from p on and the m bytes from q on
// share one.
func overlap(p *byte, n int, q *byte, m int) bool {
	from, to := uintptr(unsafe.Pointer(p)), uintptr(unsafe.Pointer(q))
	return n > 0 && m > 0 && from < to+uintptr(m) && to < from+uintptr(n)
}

func TestP3_4NewMemory(t *testing.T) {
	for _, s := range []string{"", "nothing-to-change", "a b%41", "%", strings.Repeat("~", 300)} {
		b := Decode(s)
		if overlap(unsafe.SliceData(b), cap(b), unsafe.StringData(s), len(s)) {
			t.Errorf("Decode(%q) is shared", s)
		}
		for set := range api.Sets + 1 {
			e := Encode(s, set)
			if overlap(unsafe.StringData(e), len(e), unsafe.StringData(s), len(s)) {
				t.Errorf("Encode(%q, %d) is shared", s, set)
			}
		}
	}
}

func TestP3_4NotKept(t *testing.T) {
	s := "a%20b"
	first, second := Decode(s), Decode(s)
	for i := range first[:cap(first)] {
		first[:cap(first)][i] = '#'
	}
	if third := Decode(s); string(second) != "a b" || !slices.Equal(second, third) {
		t.Errorf("%q, %q", second, third)
	}
	room := []byte("a b c")
	e := Encode(unsafe.String(&room[0], len(room)), api.SetPath)
	copy(room, "#####")
	if e != "a%20b%20c" {
		t.Errorf("%q", e)
	}
}

func TestP3_5NoneOfTheSet(t *testing.T) {
	for s := range texts {
		for set := range api.Sets {
			s := s + " '\"<>#?`{}/:;=@[\\]|^$&+,\x00\x7f\x80\xff~"
			for _, c := range []byte(Encode(s, set)) {
				if c != '%' && known(set, c) {
					t.Fatalf("Encode(%q, %d) has %q", s, set, c)
				}
			}
		}
		if len(s) > 3 {
			return
		}
	}
}

func TestP3_5ThereAndBack(t *testing.T) {
	for n := range 0x10000 {
		s := string([]byte{byte(n >> 8), byte(n)})
		if b := Decode(Encode(s, api.SetComponent)); string(b) != s {
			t.Fatalf("%q: %q", s, b)
		}
	}
	for s := range texts {
		if b := Decode(Encode(s, api.SetComponent)); string(b) != s {
			t.Fatalf("%q: %q", s, b)
		}
	}
	// The other sets leave percent as it is, so that what looks encoded is
	// decoded as something else.
	for set := range api.SetComponent {
		if b := Decode(Encode("%41", set)); string(b) != "A" {
			t.Errorf("%d: %q", set, b)
		}
	}
}
