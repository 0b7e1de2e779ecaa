package url

import (
	"slices"
	"strings"
	"testing"
	"unsafe"
)

// The tests of ordinary inputs, and of the edges that the chapter names, say
// what they want byte by byte. Those in model_test.go hold the package against
// the chapter's words, at many texts.

func TestBare(t *testing.T) {
	for _, c := range []struct{ in, want string }{
		{"", ""}, {"a", "a"}, {"https://x/y?z#w", "https://x/y?z#w"},
		{" a ", "a"}, {"\x00\x1f a\x00\x1f ", "a"}, {" \ta\nb \x00", "ab"}, {"\v\f\x01\x7f\x02", "\x7f"},
		// All of it is passed over.
		{" ", ""}, {"\x00", ""}, {"\t\n\r", ""}, {" \x00 \x1f\x10 ", ""}, {strings.Repeat(" ", 1000), ""},
		// Within, three bytes alone are.
		{"a\tb\nc\rd", "abcd"}, {"a\r\n\t\n\rb", "ab"}, {"a b", "a b"}, {"a  b c", "a  b c"}, {"a\x00b", "a\x00b"},
		{"a\x08\x09\x0a\x0b\x0c\x0d\x0e\x1f b", "a\x08\x0b\x0c\x0e\x1f b"},
		// Of those beside one another as well, at the front and at the end.
		{"\t \t a \n \n", "a"}, {" \t\x00\ra\tb\n\x01 ", "ab"}, {"a \t b", "a  b"}, {"a\t \tb", "a b"},
		// What is not below 33 stays, at the front and at the end, too.
		{"!a!", "!a!"}, {"\x7fa\x7f", "\x7fa\x7f"}, {"\u00a0a\u00a0", "\u00a0a\u00a0"}, {"\u0085a\u2003", "\u0085a\u2003"}, {"\ufeffa", "\ufeffa"},
		{"\xffa\xff", "\xffa\xff"}, {" \xff \x80 ", "\xff \x80"}, {"é\té", "éé"}, {"\xc3\t\xa9", "é"}, {"\xe2\x82\n", "\xe2\x82"},
		{"AbC", "AbC"}, {`\`, `\`}, {"&#9;", "&#9;"}, {"%09%20", "%09%20"},
	} {
		if got := Bare(c.in); got != c.want {
			t.Errorf("Bare(%q) is %q, not %q", c.in, got, c.want)
		}
	}
}

// TestBareAllBytes: each byte alone, at the front, within, and at the end.
func TestBareAllBytes(t *testing.T) {
	for n := range 256 {
		b := string([]byte{byte(n)})
		outside, within := b, b
		if n <= 32 {
			outside = ""
		}
		if n == 9 || n == 10 || n == 13 {
			within = ""
		}
		for in, want := range map[string]string{
			b: outside, b + b: outside + outside, b + "a": outside + "a", "a" + b: "a" + outside, "a" + b + "c": "a" + within + "c",
			" " + b + " ": outside, "\x00" + b + "a": outside + "a", "a" + b + "\x1f": "a" + outside, "a" + b + b + "c" + b: "a" + within + within + "c" + outside,
		} {
			if got := Bare(in); got != want {
				t.Errorf("Bare(%q) is %q, not %q", in, got, want)
			}
		}
	}
}

func TestScheme(t *testing.T) {
	for _, c := range []struct{ in, want string }{
		{"https://x", "https"}, {"mailto:a@b", "mailto"}, {"javascript:alert(1)", "javascript"}, {"data:,x", "data"},
		{"a:", "a"}, {"z:", "z"}, {"A:", "a"}, {"Z:", "z"}, {"a:b:c", "a"}, {"a::", "a"}, {"a:/", "a"}, {"a: ", "a"}, {"a:\xff", "a"},
		// What may stand behind the first letter.
		{"a+1.-:", "a+1.-"}, {"a+:", "a+"}, {"a-:", "a-"}, {"a.:", "a."}, {"a0:", "a0"}, {"a9:", "a9"}, {"aAzZ09+-.:x", "aazz09+-."}, {"a...:", "a..."}, {"x-y+z.w:", "x-y+z.w"},
		// Great letters.
		{"HTTPS:x", "https"}, {"JavaScript:x", "javascript"}, {"hTTp:X", "http"}, {"ABCDEFGHIJKLMNOPQRSTUVWXYZ:", "abcdefghijklmnopqrstuvwxyz"},
		// What Bare takes away.
		{" Java\tScript:x", "javascript"}, {"java\nscript:x", "javascript"}, {"java\r\nscript\t:x", "javascript"}, {"\x00\x1fdata:x", "data"},
		{"\x01\x02 \x0b\x0cvbscript:x", "vbscript"}, {"\tj\ta\tv\ta\ts\tc\tr\ti\tp\tt\t:\t", "javascript"}, {"a\t:", "a"}, {"\na:\n", "a"}, {" a: ", "a"}, {"a\t1:", "a1"},
		{strings.Repeat("a", 1000) + ":", strings.Repeat("a", 1000)},
	} {
		if got, has := Scheme(c.in); got != c.want || !has {
			t.Errorf("Scheme(%q) is %q, %v, not %q", c.in, got, has, c.want)
		}
	}
}

// none are places without a scheme, which are allowed by any schemes.
var none = []string{
	"", " ", "\t\n\r", "\x00", "a", "/", "/a", "/a:b", "#", "#a", "#a:b", "?", "?a:b", "a/b:c", "a?b:c", "a#b:c", "./a:b", "../a",
	":", "::", ":a", ":a:", " :a:", "\t:x", "1a:", "1:", "0:", "9:", "+a:", "-a:", ".a:", "+:", "-:", ".:", "/:", "https", "https//x", "https/:x",
	"a b:", "a :", "a_b:", "a,b:", "a%3A", "a%3a:", "%61:", "a;b:", "a@b:", "a[b:", "a`b:", "a{b:", "@a:", "[a:", "`a:", "{a:", "*:", "a*:", "a/:", "a=b:", "a&colon;",
	"é:", "aé:", "\xff:", "a\xff:", "ſ:", "javaſcript:x", "\u212aa:", "ａ:", "a\u00a0:", "\u00a0a:", "\ufeffjavascript:x", "\u0085a:", "a：", "a\u2236b", "٣a:", "a٣:", "a\xc2:",
	"/x/y", "a//b", "/a//b", "x//", "/ /x", "./", "/", "&sol;/x", "/%5cx", "%2f/x", "a b", "a  b", "~", "!", "\x80", "a\x80", "(", "\"", "'", "<", "a\tb", "/\ta",
}

// far are places without a scheme that are not allowed, whatever the schemes.
var far = []string{
	"//", "//x", "///", "///x", "//x:1", "//https:x", " //x", "\t//x", "\x00//x", "/\t/x", "/\n/x", "\r/\r/\r", "\x1f/\t\t/x ", "// x",
	`\`, `\\x`, `\/x`, `/\x`, `a\b`, `/a\`, `\a:b`, `a\:b`, `\https:x`, ` \ `, "/\t\\x",
	"a\x7f", "\x7f", "\x7fa", "\x7fa:b", "a\x7f:b", "/\x7f/x", " \x7f ",
	"a\x00b", "a\x01b", "a\x08b", "a\x0bb", "a\x0cb", "a\x0eb", "a\x1fb", "a\x00:b", "java\x00script:x", "java\x01script:x", "java\x0cscript:x", "/\x00/x", "/\x0b/x", "a \x1f b", "#\x00a", "\x80\x00\x80",
}

func TestSchemeNone(t *testing.T) {
	for _, s := range append(slices.Clone(none), far...) {
		if got, has := Scheme(s); got != "" || has {
			t.Errorf("Scheme(%q) is %q, %v", s, got, has)
		}
	}
	for _, s := range []string{strings.Repeat("a", 1000), strings.Repeat("a", 1000) + "/:", strings.Repeat(":", 1000)} {
		if got, has := Scheme(s); got != "" || has {
			t.Errorf("Scheme(%q) is %q, %v", s, got, has)
		}
	}
}

// TestSchemeAllBytes: each byte as a scheme's first, within one, as its last,
// and in the place of `:`.
func TestSchemeAllBytes(t *testing.T) {
	const small, great = "abcdefghijklmnopqrstuvwxyz", "ABCDEFGHIJKLMNOPQRSTUVWXYZ"
	for n := range 256 {
		b := string([]byte{byte(n)})
		low := b
		if i := strings.Index(great, b); i >= 0 {
			low = small[i : i+1]
		}
		first := strings.Contains(small+great, b)
		within := first || strings.Contains("0123456789+-.", b)
		// What is passed over parts no scheme.
		gone := n == 9 || n == 10 || n == 13
		wants := map[string]string{}
		if gone {
			wants["q"+b+"r:"], wants["q"+b+":"], wants[b+"q:"], wants["q"+b+"r:x"] = "qr", "q", "q", "qr"
		} else if n <= 32 {
			wants[b+"q:"] = "q"
		}
		if first {
			wants[b+":"], wants[b+"q:"] = low, low+"q"
		}
		if within {
			wants["q"+b+"r:"], wants["q"+b+":"], wants["q"+b+"r:x"] = "q"+low+"r", "q"+low, "q"+low+"r"
		}
		if b == ":" {
			wants["q"+b], wants["q"+b+"r"], wants["q"+b+":"], wants["q"+b+"r:"], wants["q"+b+"r:x"] = "q", "q", "q", "q", "q"
		}
		for _, in := range []string{b, b + ":", b + "q:", "q" + b + "r:", "q" + b + ":", "q" + b, "q" + b + "r", "q" + b + "r:x"} {
			want, has := wants[in]
			if got, is := Scheme(in); got != want || is != has {
				t.Errorf("Scheme(%q) is %q, %v, not %q", in, got, is, want)
			}
		}
	}
}

func TestAllowedSchemes(t *testing.T) {
	for _, c := range []struct {
		in      string
		schemes []string
		want    bool
	}{
		{"https:x", []string{"https"}, true}, {"HTTPS:x", []string{"https"}, true}, {" ht\ttps://x", []string{"https"}, true}, {"https:", []string{"https"}, true},
		{"https:x", []string{"http", "https", "mailto"}, true}, {"mailto:x", []string{"http", "https", "mailto"}, true}, {"http:x", []string{"http", "https", "mailto"}, true},
		{"https:x", nil, false}, {"https:x", []string{}, false}, {"data:x", []string{"https"}, false}, {"javascript:x", []string{"http", "https", "mailto"}, false}, {"java\tscript:x", []string{"https"}, false},
		// A scheme is one of them whole, and as it stands there.
		{"https:x", []string{"http"}, false}, {"http:x", []string{"https"}, false}, {"https:x", []string{"HTTPS"}, false}, {"HTTPS:x", []string{"HTTPS"}, false}, {"https:x", []string{"https:"}, false},
		{"https:x", []string{" https"}, false}, {"https:x", []string{"http,https"}, false}, {"https:x", []string{"http https"}, false}, {"https:x", []string{"*"}, false}, {"https:x", []string{""}, false}, {"a:x", []string{"b", "c", ""}, false},
		{"javascript:x", []string{"data", "javascript"}, true}, {"data:x", []string{"data"}, true}, {"a+1.-:", []string{"a+1.-"}, true}, {"https:x", []string{"https", "https"}, true},
		// What stands behind the scheme is not asked.
		{`https:\\x`, []string{"https"}, true}, {"https://x", []string{"https"}, true}, {"https:\x00\x7f", []string{"https"}, true}, {"https:a\x01b", []string{"https"}, true}, {`https:\\x`, []string{"http"}, false}, {"https:/a", nil, false},
	} {
		if got := Allowed(c.in, c.schemes...); got != c.want {
			t.Errorf("Allowed(%q, %q) is %v", c.in, c.schemes, got)
		}
	}
}

// TestAllowedNone: a place without a scheme is allowed or not, whatever the
// schemes; an empty one is none that it has.
func TestAllowedNone(t *testing.T) {
	for _, schemes := range [][]string{nil, {}, {"https"}, {""}, {"", "https", "//", "a"}} {
		for _, s := range none {
			if !Allowed(s, schemes...) {
				t.Errorf("Allowed(%q, %q) is false", s, schemes)
			}
		}
		for _, s := range far {
			if Allowed(s, schemes...) {
				t.Errorf("Allowed(%q, %q) is true", s, schemes)
			}
		}
	}
}

// TestAllowedAllBytes: each byte within a place without a scheme, at its front,
// and at its end.
func TestAllowedAllBytes(t *testing.T) {
	for n := range 256 {
		b := string([]byte{byte(n)})
		gone := n == 9 || n == 10 || n == 13
		within := gone || n >= 32 && n != 92 && n != 127
		outside := n <= 32 || within
		for in, want := range map[string]bool{"/a" + b + "c": within, "/" + b + "c": within && n != '/', "/a" + b: outside, b + "/a": outside && n != '/', b: outside} {
			if got := Allowed(in, "https"); got != want {
				t.Errorf("Allowed(%q) is %v", in, got)
			}
		}
	}
}

func TestLongPlaces(t *testing.T) {
	const many = 1 << 20
	a := strings.Repeat("aB", many)
	low := strings.Repeat("ab", many)
	if got, has := Scheme(strings.Repeat(" ", many) + a + ":" + a); got != low || !has {
		t.Errorf("a long scheme: %d bytes", len(got))
	}
	if got, has := Scheme(a); got != "" || has {
		t.Errorf("a long place without a scheme: %d bytes", len(got))
	}
	if got := Bare(strings.Repeat("\x00 \t", many) + strings.Repeat("a\n b\r", many) + strings.Repeat("\r\n ", many)); got != strings.Repeat("a b", many) {
		t.Errorf("a long place, bare: %d bytes", len(got))
	}
	if Bare(strings.Repeat(" \x00", many)) != "" {
		t.Error("many bytes that are passed over")
	}
	if !Allowed(a, "x") || !Allowed("/"+a) || Allowed(a+"\\") || Allowed("//"+a) || !Allowed("a"+strings.Repeat("//", many)) {
		t.Error("which long places are allowed")
	}
	schemes := append(slices.Repeat([]string{"x"}, many), "y")
	if !Allowed("y:", schemes...) || Allowed("z:", schemes...) {
		t.Error("many schemes")
	}
}

// TestInputsStay: schemes are the same behind a call, and so is what stands
// behind them in their array.
func TestInputsStay(t *testing.T) {
	all := []string{"mailto", "HTTPS", "", "https", "x"}
	schemes := all[:4]
	for _, s := range []string{"https:x", "x:x", "/a", "//a", ""} {
		if Allowed(s, schemes...) != Allowed(s, schemes...) {
			t.Errorf("Allowed(%q) answers otherwise when asked again", s)
		}
	}
	if !slices.Equal(all, []string{"mailto", "HTTPS", "", "https", "x"}) {
		t.Errorf("Allowed changes schemes: %q", all)
	}
}

// TestAnswersAreNew: what is told shares no byte with the place.
func TestAnswersAreNew(t *testing.T) {
	b := []byte("ab:cd")
	s := unsafe.String(&b[0], len(b))
	bare := Bare(s)
	scheme, _ := Scheme(s)
	for i := range b {
		b[i] = 'z'
	}
	if bare != "ab:cd" || scheme != "ab" {
		t.Errorf("answers share a place's bytes: %q, %q", bare, scheme)
	}
}
