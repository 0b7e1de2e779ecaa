package refs

import (
	"strconv"
	"strings"
	"testing"
)

// The tests of ordinary inputs, and of the edges that the chapter names, say
// what they want byte by byte. Those in model_test.go hold the package against
// the chapter's words, at many texts.

// chapterNames are the names as the chapter has them.
const chapterNames = "amp 38, lt 60, gt 62, quot 34, apos 39, nbsp 160, copy 169, reg 174, deg 176, middot 183, laquo 171, raquo 187, times 215, eacute 233, ndash 8211, mdash 8212, lsquo 8216, rsquo 8217, ldquo 8220, rdquo 8221, hellip 8230, euro 8364"

// names are those of the chapter, with the characters' numbers.
func names(t testing.TB) map[string]rune {
	out := map[string]rune{}
	for _, one := range strings.Split(chapterNames, ", ") {
		name, number, _ := strings.Cut(one, " ")
		n, err := strconv.Atoi(number)
		if err != nil {
			t.Fatal(err)
		}
		out[name] = rune(n)
	}
	if len(out) != 22 {
		t.Fatalf("%d names", len(out))
	}
	return out
}

func TestNamed(t *testing.T) {
	for name, r := range names(t) {
		if s, is := Named(name); s != string(r) || !is {
			t.Errorf("Named(%q) is %q, %v", name, s, is)
		}
		if s := Resolve("a&" + name + ";b"); s != "a"+string(r)+"b" {
			t.Errorf("&%s; is resolved to %q", name, s)
		}
	}
	if s, _ := Named("nbsp"); s != "\xc2\xa0" {
		t.Errorf("nbsp is %q", s)
	}
	if s, _ := Named("euro"); s != "\xe2\x82\xac" {
		t.Errorf("euro is %q", s)
	}
}

func TestNamedWrong(t *testing.T) {
	wrong := []string{
		"", " ", "&", ";", "no", "AMP", "Amp", "Eacute", "amp;", "&amp", "&amp;", " lt", "lt ",
		"l", "ltt", "am", "amps", "egrave", "#38", "#x26", "38", "\xff", "lt\x00", "\uFFFD",
		strings.Repeat("amp", 1000),
	}
	for name := range names(t) {
		wrong = append(wrong, strings.ToUpper(name), name+"a", name[1:]+"x", "x"+name)
	}
	for _, name := range wrong {
		if s, is := Named(name); s != "" || is {
			t.Errorf("Named(%q) is %q, %v", name, s, is)
		}
	}
}

func TestResolve(t *testing.T) {
	for _, c := range []struct{ in, want string }{
		{"", ""}, {"abc", "abc"}, {"a&lt;b&#65;&#x41;&no;&", "a<bAA&no;&"},
		{"&amp;", "&"}, {"&lt;&gt;", "<>"}, {"&hellip;&middot;&eacute;", "…·é"},
		// What a reference stands for begins no other one.
		{"&amp;lt;", "&lt;"}, {"&amp;amp;amp;", "&amp;amp;"}, {"&amp;#65;", "&#65;"},
		{"&#38;lt;", "&lt;"}, {"&#x26;amp;", "&amp;"}, {"&#38;#38;", "&#38;"},
		{"&am&amp;p;", "&am&p;"}, {"&l&#116;;", "&lt;"}, {"&lt&#59;", "&lt;"},
		// One that is none hides no other behind it.
		{"&&lt;", "&<"}, {"&&&lt;&", "&&<&"}, {"&#&#65;", "&#A"}, {"&#x&lt;", "&#x<"},
		{"&am&lt;", "&am<"}, {"&#6&#65;", "&#6A"}, {"&;&lt;", "&;<"}, {"&no;lt;", "&no;lt;"},
		{"&lt;lt;", "<lt;"}, {"&lt;;", "<;"}, {"&lt;&", "<&"},
	} {
		if s := Resolve(c.in); s != c.want {
			t.Errorf("Resolve(%q) is %q, not %q", c.in, s, c.want)
		}
	}
}

func TestResolveNumbers(t *testing.T) {
	for _, c := range []struct{ in, want string }{
		{"&#9;&#10;&#1;&#127;", "\t\n\x01\x7f"}, {"&#128;&#x9F;", "\u0080\u009F"},
		{"&#128512;", "😀"}, {"&#x1F600;", "😀"}, {"&#X1f600;", "😀"}, {"&#xaBcD;", "\uABCD"},
		{"&#xA0;&#160;", "\u00a0\u00a0"}, {"&#xFFFD;&#65533;", "\uFFFD\uFFFD"},
		{"&#xFFFE;&#xFFFF;", "\uFFFE\uFFFF"},
		// As many digits as may be, and one more.
		{"&#0000065;", "A"}, {"&#00000065;", "&#00000065;"}, {"&#12345678;", "&#12345678;"},
		{"&#x000041;", "A"}, {"&#x0000041;", "&#x0000041;"}, {"&#1;", "\x01"}, {"&#xf;", "\x0f"},
		// Numbers that are no character.
		{"&#0;", "\uFFFD"}, {"&#0000000;", "\uFFFD"}, {"&#x0;", "\uFFFD"}, {"&#x000000;", "\uFFFD"},
		{"&#13;", "\uFFFD"}, {"&#xD;", "\uFFFD"}, {"&#x00000d;", "\uFFFD"}, {"&#x000000d;", "&#x000000d;"},
		{"&#12;&#14;", "\x0c\x0e"},
		{"&#55295;", "\uD7FF"}, {"&#55296;", "\uFFFD"}, {"&#57343;", "\uFFFD"}, {"&#57344;", "\uE000"},
		{"&#xd7ff;&#xd800;&#xDFFF;&#xE000;", "\uD7FF\uFFFD\uFFFD\uE000"},
		{"&#1114111;", "\U0010FFFF"}, {"&#1114112;", "\uFFFD"}, {"&#9999999;", "\uFFFD"},
		{"&#x10FFFF;", "\U0010FFFF"}, {"&#x110000;", "\uFFFD"}, {"&#xFFFFFF;", "\uFFFD"},
	} {
		if s := Resolve(c.in); s != c.want {
			t.Errorf("Resolve(%q) is %q, not %q", c.in, s, c.want)
		}
	}
}

// TestResolveLeaves: what is no reference, and wrong bytes, are as they are.
func TestResolveLeaves(t *testing.T) {
	for _, s := range []string{
		"&", "&&", ";", "&;", "&#;", "&#x;", "&#X;", "&lt", "&lt ;", "& lt;", "&LT;", "&Lt;",
		"&no;", "&#65", "&#x41", "&#a;", "&#xg;", "&#6a;", "&#-1;", "&#+1;", "&#x-1;", "&#x+1;",
		"&#1_0;", "&#x1_0;", "&#0x41;", "&#x0x1;", "&#xx41;", "&#XX41;", "&# 65;", "&#65 ;", "&#6.5;",
		"&##65;", "&x41;", "#65;", "lt;", "&&#;", "&#x&;", "&1;", "&#\u0661;", "&#x\uFF21;",
		"&hellipx;", "&hellipsis;", "&notaname;", "&eacutes;", "&amp", "&amp\x00;",
		"\xff&\xff;", "&\xfflt;", "&#\xc2;", "\xe2\x82", "\x00\r\n", "a\u00a0\"'<>b",
	} {
		if got := Resolve(s); got != s {
			t.Errorf("Resolve(%q) is %q", s, got)
		}
	}
	if s := Resolve("\xff&lt;\xe2\x82&gt;\xc2"); s != "\xff<\xe2\x82>\xc2" {
		t.Errorf("wrong bytes around references: %q", s)
	}
}

// TestResolveAllNumbers: every number in both forms, up to those that are
// above all characters.
func TestResolveAllNumbers(t *testing.T) {
	for n := 0; n < 1114111+300; n++ {
		want := string(rune(n))
		if n == 0 || n == 13 || n > 1114111 { // those from 55296 to 57343 string turns itself
			want = "\uFFFD"
		}
		hex := strconv.FormatInt(int64(n), 16)
		if got := Resolve("&#" + strconv.Itoa(n) + ";&#x" + hex + ";"); got != want+want {
			t.Fatalf("the number %d: %q", n, got)
		}
	}
}

func TestEscape(t *testing.T) {
	for _, c := range []struct{ in, plain, quoted string }{
		{"", "", ""}, {"abc", "abc", "abc"},
		{`a<"b"&`, `a&lt;"b"&amp;`, `a&lt;&quot;b&quot;&amp;`},
		{"<>&\"'\u00a0", "&lt;&gt;&amp;\"'&nbsp;", "&lt;&gt;&amp;&quot;'&nbsp;"},
		{"&amp;", "&amp;amp;", "&amp;amp;"}, {"&#38;", "&amp;#38;", "&amp;#38;"}, {"&nbsp;", "&amp;nbsp;", "&amp;nbsp;"},
		{"&&", "&amp;&amp;", "&amp;&amp;"}, {`""`, `""`, "&quot;&quot;"},
		{"'", "'", "'"}, {"\x00\r\n\t", "\x00\r\n\t", "\x00\r\n\t"},
		{"é€😀©\uFFFD", "é€😀©\uFFFD", "é€😀©\uFFFD"},
		{"a\xc2\xa0b", "a&nbsp;b", "a&nbsp;b"}, {"\u00a0\u00a0", "&nbsp;&nbsp;", "&nbsp;&nbsp;"},
		// Neither byte is the character without the other, nor where it is of another.
		{"\xc2", "\xc2", "\xc2"}, {"\xa0", "\xa0", "\xa0"}, {"\xa0\xc2", "\xa0\xc2", "\xa0\xc2"},
		{"\xc3\xa0", "\xc3\xa0", "\xc3\xa0"}, {"\xe2\x82\xa0", "\xe2\x82\xa0", "\xe2\x82\xa0"},
		{"\xc2\xc2\xa0\xa0", "\xc2&nbsp;\xa0", "\xc2&nbsp;\xa0"}, {"\xe2\xc2\xa0", "\xe2&nbsp;", "\xe2&nbsp;"},
		{"\xe0\x82\xa0", "\xe0\x82\xa0", "\xe0\x82\xa0"},
		// Long forms of the other characters are wrong bytes.
		{"\xc0\xbc\xc0\xa6", "\xc0\xbc\xc0\xa6", "\xc0\xbc\xc0\xa6"},
		{"\xff<\xff", "\xff&lt;\xff", "\xff&lt;\xff"},
		{"\u2039\uFF1C\u00AB", "\u2039\uFF1C\u00AB", "\u2039\uFF1C\u00AB"},
	} {
		if s := Escape(c.in, false); s != c.plain {
			t.Errorf("Escape(%q, false) is %q, not %q", c.in, s, c.plain)
		}
		if s := Escape(c.in, true); s != c.quoted {
			t.Errorf("Escape(%q, true) is %q, not %q", c.in, s, c.quoted)
		}
	}
}

func TestLongTexts(t *testing.T) {
	const many = 1 << 20
	for _, s := range []string{"&", "&#", "&#x", "&#1", "&am", "&lt", "&#x000000", "\xff", "a"} {
		long := strings.Repeat(s, many)
		if Resolve(long) != long {
			t.Errorf("%q, many times, is not itself", s)
		}
	}
	long := strings.Repeat("&<>\"\u00a0\xff", many)
	if Resolve(Escape(long, true)) != long || Resolve(Escape(long, false)) != long {
		t.Error("a long text is not itself again")
	}
	if Resolve(strings.Repeat("&#65;", many)) != strings.Repeat("A", many) {
		t.Error("many references")
	}
}
