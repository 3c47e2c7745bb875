package escape

import (
	"bytes"
	"regexp"
	"strings"
	"testing"
	"unsafe"

	"tamis/entity"
)

// table holds each sign that is escaped, and what stands in place of it, as
// the document's words tell them.
const table = "& &amp; \" &#34; ' &#39; < &#60; > &#62; ` &#96;"

// escapes is what the table tells, by the sign.
func escapes() map[string]string {
	m := map[string]string{}
	words := strings.Fields(table)
	for i := 0; i < len(words); i += 2 {
		m[words[i]] = words[i+1]
	}
	return m
}

// escaped is what Escape of s is to be: & first, since what stands in place of
// the others begins with one.
func escaped(s string) string {
	words := strings.Fields(table)
	for i := 0; i < len(words); i += 2 {
		s = strings.ReplaceAll(s, words[i], words[i+1])
	}
	return s
}

var (
	plain   = regexp.MustCompile(`^(?:[ !#$%()*+,\-./0-9:;=?@A-Z\[\\\]^_a-z{|}~]|&amp;|&#34;|&#39;|&#60;|&#62;|&#96;)*$`)
	settled = regexp.MustCompile("(?s)^(?:[^&\"'<>`]|&amp;|&#34;|&#39;|&#60;|&#62;|&#96;)*$")
)

// check holds the calls of s against what they are to be, and what follows of
// them.
func check(t *testing.T, s string) {
	t.Helper()
	got := Escape(s)
	if want := escaped(s); got != want {
		t.Fatalf("Escape(%q) is %q, not %q", s, got, want)
	}
	if is := Plain(s); is != plain.MatchString(s) {
		t.Fatalf("Plain(%q) is %v", s, is)
	}
	// What is settled is just what Escape can answer.
	if is := Settled(s); is != settled.MatchString(s) || is != (escaped(entity.Decode(s)) == s) {
		t.Fatalf("Settled(%q) is %v", s, is)
	}
	follows(t, s, got)
}

// follows holds e, which is Escape of s, against P6.5.
func follows(t *testing.T, s, e string) {
	t.Helper()
	if d := entity.Decode(e); d != s {
		t.Fatalf("%q is decoded as %q, not %q", e, d, s)
	}
	if !Settled(e) {
		t.Fatalf("%q is not settled", e)
	}
	if Plain(e) != seen(s) {
		t.Fatalf("Plain(%q) is %v", e, !seen(s))
	}
	for _, quote := range []byte("\"'`<>") {
		if a := Ahead(e, quote); a != e {
			t.Fatalf("%c ends %q behind %q", quote, e, a)
		}
	}
}

// seen tells whether all bytes of s are from 20 to 7e.
func seen(s string) bool {
	for i := range len(s) {
		if s[i] < 0x20 || s[i] > 0x7e {
			return false
		}
	}
	return true
}

// one is the text of the byte c alone.
func one(c int) string {
	return string([]byte{byte(c)})
}

// pieced yields all texts of up to most of the pieces.
func pieced(most int, pieces []string) func(func(string) bool) {
	return func(yield func(string) bool) {
		all := []string{""}
		from := 0
		for n := 0; n <= most; n++ {
			to := len(all)
			for _, s := range all[from:to] {
				if !yield(s) {
					return
				}
				if n == most {
					continue
				}
				for _, p := range pieces {
					all = append(all, s+p)
				}
			}
			from = to
		}
	}
}

// references is texts that are, or nearly are, references to signs: those that
// Escape writes, others to the same signs, and broken ones.
func references() []string {
	return []string{
		"&amp;", "&#34;", "&#39;", "&#60;", "&#62;", "&#96;",
		"&amp", "&AMP;", "&AMP", "&Amp;", "&#38;", "&#38", "&#x26;", "&#038;", "&am", "&a", "&amp:", "&amp ;", "& amp;", "&ampx", "&amp=",
		"&quot;", "&quot", "&QUOT;", "&#34", "&#x22;", "&#034;", "&#34:", "&#3", "&#3;", "&#", "&#;", "&#35;", "&#33;", "&34;", "&#34x;", "&#340;", "&#134;",
		"&apos;", "&apos", "&#39", "&#x27;", "&#039;", "&#38;#39;", "&#X27;",
		"&lt;", "&lt", "&LT;", "&#60", "&#x3c;", "&#x3C;", "&#060;", "&gt;", "&gt", "&GT;", "&#62", "&#x3e;", "&#61;", "&#63;",
		"&grave;", "&#96", "&#x60;", "&#096;", "&#95;", "&#97;", "&#65;", "&semi;", "&num;", "&colon;", "&notin;", "&unknown;", "&;", "&",
	}
}

func TestP6_1Signs(t *testing.T) {
	known := escapes()
	if len(known) != 6 {
		t.Fatalf("%d signs are known", len(known))
	}
	for c := range 256 {
		want, is := known[one(c)]
		if !is {
			want = one(c)
		}
		if got := Escape(one(c)); got != want {
			t.Errorf("Escape(%q) is %q, not %q", one(c), got, want)
		}
	}
}

func TestP6_1Texts(t *testing.T) {
	for s, want := range map[string]string{
		"": "", "a&b'c": "a&amp;b&#39;c", "a b": "a b", "&&": "&amp;&amp;", "''": "&#39;&#39;", "<a href=\"`\">": "&#60;a href=&#34;&#96;&#34;&#62;",
		// Nothing that is a reference already is left as it is.
		"&amp;": "&amp;amp;", "&#39;": "&amp;#39;", "&amp;amp;": "&amp;amp;amp;", "&lt": "&amp;lt", "&#x22;": "&amp;#x22;", "&'": "&amp;&#39;",
		// Bytes that are no signs, and those that make longer signs.
		"\x00\xff": "\x00\xff", "\xc3&": "\xc3&amp;", "\u00e9'\u2018\u2019": "\u00e9&#39;\u2018\u2019", "\uff06\uff02": "\uff06\uff02", "\xa6\xa7": "\xa6\xa7", "\t\n\x7f": "\t\n\x7f", "\xe2\x80'\xe2": "\xe2\x80&#39;\xe2",
	} {
		if got := Escape(s); got != want {
			t.Errorf("Escape(%q) is %q, not %q", s, got, want)
		}
	}
}

func TestP6_2Signs(t *testing.T) {
	for c := range 256 {
		want := c >= 0x20 && c <= 0x7e && !strings.Contains("&\"'<>`", one(c))
		for _, s := range []string{one(c), "a" + one(c), one(c) + "a", "&amp;" + one(c), one(c) + "&#39;", one(c) + one(c)} {
			if Plain(s) != want {
				t.Errorf("Plain(%q) is %v", s, !want)
			}
		}
	}
}

func TestP6_2References(t *testing.T) {
	written := map[string]bool{}
	for _, r := range escapes() {
		written[r] = true
	}
	for _, r := range references() {
		for _, s := range []string{r, "a" + r, r + " ", "~" + r + "z", "&#96;" + r, r + "&amp;"} {
			if Plain(s) != written[r] {
				t.Errorf("Plain(%q) is %v", s, !written[r])
			}
		}
	}
	// Each cut short at either end, and in large letters.
	for r := range written {
		for i := range r {
			if s := r[:i]; Plain(s) != (s == "") {
				t.Errorf("Plain(%q)", s)
			}
			if i > 0 && !Plain(r[i:]) {
				t.Errorf("Plain(%q) is false", r[i:])
			}
			if s := strings.ToUpper(r); Plain(s) != written[s] {
				t.Errorf("Plain(%q)", s)
			}
		}
	}
	for _, s := range []string{"", "a b~", "amp;", "#34;", "&amp;amp", "&amp;#34;", "&amp;lt;", "&#34;&#39;&#60;&#62;&#96;", "&amp;;", "&#39;9;"} {
		if !Plain(s) {
			t.Errorf("Plain(%q) is false", s)
		}
	}
	for _, s := range []string{"&&amp;", "&amp;&", "&am&amp;p;", "&amp;\x1f", "&#34;\x7f", "\u00e9", "&amp;\xff", "&amp;'", "&#39&#39;", "&#3&#39;9;"} {
		if Plain(s) {
			t.Errorf("Plain(%q) is true", s)
		}
	}
}

func TestP6_3Signs(t *testing.T) {
	known := escapes()
	for c := range 256 {
		_, is := known[one(c)]
		for _, s := range []string{one(c), "a" + one(c), "&amp;" + one(c), one(c) + "&#39;"} {
			if Settled(s) == is {
				t.Errorf("Settled(%q) is %v", s, is)
			}
		}
	}
}

func TestP6_3References(t *testing.T) {
	for s, want := range map[string]bool{
		"": true, "a b~": true, "\x00\x1f\x7f": true, "\xc3": true, "\u00e9": true, "\u2209": true, "amp;": true,
		"&amp;": true, "&#34;": true, "&#39;": true, "&#60;": true, "&#62;": true, "&#96;": true, "&amp;lt;": true, "&amp;amp;": true, "&amp;amp": true, "&amp;#39;": true, "&amp;\xff": true,
		// They say the same, but are not written so.
		"&": false, "&amp": false, "&AMP;": false, "&#38;": false, "&#x26;": false, "&quot;": false, "&#34": false, "&#034;": false, "&#x22;": false, "&apos;": false, "&lt;": false, "&gt;": false, "&grave;": false,
		"&#65;": false, "&notin;": false, "&colon;": false, "&unknown;": false, "&#": false, "&;": false, "&amp;&": false, "a'": false, "&amp;\"": false, "<": false, ">": false, "`": false,
	} {
		if Settled(s) != want {
			t.Errorf("Settled(%q) is %v", s, !want)
		}
	}
	for _, r := range references() {
		if want := escaped(entity.Decode(r)) == r; Settled(r) != want {
			t.Errorf("Settled(%q) is %v", r, !want)
		}
	}
}

func TestP6_4Ahead(t *testing.T) {
	for _, x := range []struct {
		s     string
		quote byte
		want  string
	}{
		{"ab'c'", '\'', "ab"}, {"'", '\'', ""}, {"''", '\'', ""}, {"'ab", '\'', ""}, {"ab'", '\'', "ab"}, {"ab", '"', "ab"}, {"", '"', ""}, {"a'b\"c", '"', "a'b"}, {"a'b\"c", '\'', "a"},
		// A reference to a quote is none, and any byte may be one.
		{"a&#39;b", '\'', "a&#39;b"}, {"a&quot;b\"", '"', "a&quot;b"}, {"a\x00b", 0, "a"}, {"ab", 0, "ab"}, {"a\xffb", 0xff, "a"}, {"a b", ' ', "a"}, {"&amp;", '&', ""},
		// Byte by byte, within signs too.
		{"a\u00e9b", 0xa9, "a\xc3"}, {"a\u00e9b", 0xe9, "a\u00e9b"}, {"\xc3\xff'", '\'', "\xc3\xff"}, {"\ufffd", 0xfd, "\xef\xbf\xbd"},
	} {
		if got := Ahead(x.s, x.quote); got != x.want {
			t.Errorf("Ahead(%q, %q) is %q, not %q", x.s, x.quote, got, x.want)
		}
	}
}

func TestP6_4EachByte(t *testing.T) {
	var b []byte
	for c := range 256 {
		b = append(b, byte(c))
	}
	all := string(b) + string(b)
	for c := range 256 {
		if got := Ahead(all, byte(c)); got != all[:c] {
			t.Errorf("%x: %q", c, got)
		}
		rest := strings.ReplaceAll(all, one(c), "")
		if got := Ahead(rest, byte(c)); got != rest {
			t.Errorf("%x: %q", c, got)
		}
	}
}

func TestP6_5EachPair(t *testing.T) {
	for c := range 256 {
		for d := range 256 {
			check(t, one(c)+one(d))
			check(t, "&"+one(c)+one(d))
		}
	}
}

func TestP6_5References(t *testing.T) {
	for _, r := range references() {
		check(t, r)
		for c := range 256 {
			check(t, r+one(c))
			check(t, one(c)+r)
		}
		for _, other := range references() {
			check(t, r+other)
			check(t, r[:len(r)-1]+other)
		}
	}
}

func TestP6_5AllTexts(t *testing.T) {
	for s := range pieced(6, []string{"&", "#", ";", "amp", "3", "4", "'"}) {
		check(t, s)
	}
	for s := range pieced(4, []string{"&", "&amp;", "&amp", "&#39;", "&#3", "9", "6", ";", "x", "lt", "=", " ", "\"", "'", "<", ">", "`", "~", "\x1f", "\x7f", "\u00e9", "\xff"}) {
		check(t, s)
	}
}

func TestP6_5Long(t *testing.T) {
	for _, s := range []string{"&", "'", "&amp;", "&amp", "&#39;", "&#3", "abc", "\xff", "a&b'c"} {
		check(t, strings.Repeat(s, 20000))
	}
}

// within tells whether a and b share memory.
func within(a, b string) bool {
	if a == "" || b == "" {
		return false
	}
	p, q := uintptr(unsafe.Pointer(unsafe.StringData(a))), uintptr(unsafe.Pointer(unsafe.StringData(b)))
	return p < q+uintptr(len(b)) && q < p+uintptr(len(a))
}

func TestW6NewMemory(t *testing.T) {
	for _, s := range []string{"nothing-to-change", "a", "&", "a&b", "a'b", strings.Repeat("~", 300)} {
		if within(s, Escape(s)) {
			t.Errorf("Escape(%q) is shared", s)
		}
		if within(s, Ahead(s, '\'')) || within(s, Ahead(s, '!')) {
			t.Errorf("Ahead(%q) is shared", s)
		}
	}
}

func TestW6Unchanged(t *testing.T) {
	room := []byte("a&amp;b'c")
	whole := bytes.Clone(room)
	s := unsafe.String(&room[0], len(room))
	escaped, ahead := Escape(s), Ahead(s, '\'')
	if Plain(s) || Settled(s) || !bytes.Equal(room, whole) {
		t.Errorf("%q", room)
	}
	copy(room, "#########")
	if escaped != "a&amp;amp;b&#39;c" || ahead != "a&amp;b" {
		t.Errorf("%q, %q", escaped, ahead)
	}
}
