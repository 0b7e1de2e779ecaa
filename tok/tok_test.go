package tok

import (
	"reflect"
	"strconv"
	"strings"
	"testing"
	"unsafe"

	"verso/api"
	"verso/refs"
)

// The tests of ordinary inputs, and of the edges that the chapter names, say
// what they want token by token. Those in model_test.go hold the package
// against the chapter's words, at many texts.

// The tokens as the tables write them.

func text1(s string) api.Token   { return api.Token{Kind: api.TText, Text: s} }
func note1(s string) api.Token   { return api.Token{Kind: api.TComment, Text: s} }
func end1(name string) api.Token { return api.Token{Kind: api.TEnd, Name: name} }

// start1 is a start; what follows its name are names and values in turn.
func start1(name string, attrs ...string) api.Token {
	t := api.Token{Kind: api.TStart, Name: name}
	for i := 0; i < len(attrs); i += 2 {
		t.Attrs = append(t.Attrs, api.Attr{Name: attrs[i], Value: attrs[i+1]})
	}
	return t
}

// closed1 is a start that is Closed.
func closed1(name string, attrs ...string) api.Token {
	t := start1(name, attrs...)
	t.Closed = true
	return t
}

type list = []api.Token

// same tells whether two lists are the same; nil and empty ones are.
func same(a, b list) bool {
	if len(a) != len(b) {
		return false
	}
	for i := range a {
		x, y := a[i], b[i]
		if len(x.Attrs) == 0 && len(y.Attrs) == 0 {
			x.Attrs, y.Attrs = nil, nil
		}
		if !reflect.DeepEqual(x, y) {
			return false
		}
	}
	return true
}

type row struct {
	in   string
	want list
}

func askRows(t *testing.T, rows []row) {
	t.Helper()
	for _, r := range rows {
		if got := Tokens(r.in); !same(got, r.want) {
			t.Errorf("Tokens(%q) is\n%+v, not\n%+v", r.in, got, r.want)
		}
	}
}

func TestRaw(t *testing.T) {
	ask := func(name string, raw, counts bool) {
		t.Helper()
		if r, c := Raw(name); r != raw || c != counts {
			t.Errorf("Raw(%q) is %v, %v", name, r, c)
		}
	}
	for _, name := range strings.Fields("script style xmp iframe noembed noframes plaintext") {
		ask(name, true, false)
	}
	ask("textarea", true, true)
	ask("title", true, true)
	for _, name := range []string{
		"", " ", "p", "b", "noscript", "frame", "frameset", "embed", "pre", "listing", "text", "svg", "math",
		"SCRIPT", "Title", "TEXTAREA", "scripts", "scrip", "titles", "titl", "title ", " title", "<script>", "/script",
		"\u017fcript", "t\u0131tle", "script\x00", "\xff", strings.Repeat("script", 1000),
	} {
		ask(name, false, false)
	}
}

// TestExamples: those of the chapter.
func TestExamples(t *testing.T) {
	askRows(t, []row{
		{"a<b c=1 d/>x</b>", list{text1("a"), closed1("b", "c", "1", "d", ""), text1("x"), end1("b")}},
		{`<p title="a&lt;b`, nil},
		{"<title>&lt;<b></title>", list{start1("title"), text1("<<b>"), end1("title")}},
		{"a < b", list{text1("a < b")}},
	})
}

func TestText(t *testing.T) {
	askRows(t, []row{
		{"", nil}, {"a", list{text1("a")}}, {" ", list{text1(" ")}}, {"\x00\r\n\xff", list{text1("\x00\r\n\xff")}},
		{">", list{text1(">")}}, {"a>b/>\"'=!--?-->", list{text1("a>b/>\"'=!--?-->")}},
		{"a&lt;b&gt;&amp;amp;", list{text1("a<b>&amp;")}}, {"&lt;b>", list{text1("<b>")}},
		{"&lt;script>&amp;lt;", list{text1("<script>&lt;")}},
		// A `<` that begins nothing is text, and goes on with what stands around it.
		{"<", list{text1("<")}}, {"</", list{text1("</")}}, {"a < b </", list{text1("a < b </")}}, {"a<", list{text1("a<")}},
		{"<<", list{text1("<<")}}, {"<</", list{text1("<</")}}, {"< b>", list{text1("< b>")}}, {"<3>", list{text1("<3>")}},
		{"<>", list{text1("<>")}}, {"<>a</", list{text1("<>a</")}}, {"<=a>", list{text1("<=a>")}}, {"<-- a -->", list{text1("<-- a -->")}},
		{"<\x00", list{text1("<\x00")}}, {"<é>", list{text1("<é>")}}, {"<\xff>", list{text1("<\xff>")}}, {"<@><[><`><{>", list{text1("<@><[><`><{>")}},
		{"<&amp;a>", list{text1("<&a>")}}, {"<&#97;>", list{text1("<a>")}}, {"&l<t;", list{text1("&l") /* of <t; no tag */}},
		{"&l< t;", list{text1("&l< t;")}}, {"&<lt;", list{text1("&")}},
		// It ends where something begins.
		{"<<b>", list{text1("<"), start1("b")}}, {"<<<b>", list{text1("<<"), start1("b")}}, {"<</b>", list{text1("<"), end1("b")}},
		{"<<!-- -->", list{text1("<"), note1(" ")}}, {"a<b>c", list{text1("a"), start1("b"), text1("c")}},
		{"< <b>< </b><", list{text1("< "), start1("b"), text1("< "), end1("b"), text1("<")}},
		// What is passed over parts a text in two, and a reference as well.
		{"a</>b", list{text1("a"), text1("b")}}, {"&l</>t;", list{text1("&l"), text1("t;")}},
	})
}

func TestNotes(t *testing.T) {
	askRows(t, []row{
		{"<!-- n -->", list{note1(" n ")}}, {"a<!--b-->c", list{text1("a"), note1("b"), text1("c")}},
		{"<!---->", list{note1("")}}, {"<!---->-->", list{note1(""), text1("-->")}},
		{"<!--", list{note1("")}}, {"<!--a", list{note1("a")}}, {"<!--a--", list{note1("a--")}}, {"<!--a->", list{note1("a->")}}, {"<!--a-- >", list{note1("a-- >")}},
		{"<!-----", list{note1("---")}},
		// Its own bytes are none of its end.
		{"<!-->", list{note1(">")}}, {"<!--->", list{note1("->")}}, {"<!-->a-->b", list{note1(">a"), text1("b")}}, {"<!--->a-->b", list{note1("->a"), text1("b")}},
		{"<!----->", list{note1("-")}}, {"<!--a--->", list{note1("a-")}}, {"<!--a--!>b-->", list{note1("a--!>b")}},
		{"<!--<b>&lt;</b><!--x-->", list{note1("<b>&lt;</b><!--x")}}, {"<!--\x00\xff\r\n-->", list{note1("\x00\xff\r\n")}},
		{"<!--a--><!--b-->", list{note1("a"), note1("b")}}, {"<!--A&amp;--><B>", list{note1("A&amp;"), start1("b")}},
		// Those that are none are passed over.
		{"<!-", nil}, {"<!->a", list{text1("a")}}, {"<!- -->a", list{text1("a")}}, {"<! -- a>b-->", list{text1("b-->")}},
	})
}

func TestPassedOver(t *testing.T) {
	askRows(t, []row{
		{"</>", nil}, {"</>a>b", list{text1("a>b")}}, {"a</></>b", list{text1("a"), text1("b")}}, {"</></", list{text1("</")}},
		{"<!", nil}, {"<!>", nil}, {"<!>a", list{text1("a")}}, {"<!doctype html>a", list{text1("a")}}, {"a<!b", list{text1("a")}},
		{"<!DOCTYPE a \"b>c\">d", list{text1("c\">d")}}, {"<![CDATA[a]]>b", list{text1("b")}},
		{"<?", nil}, {"<?>", nil}, {"<?>a", list{text1("a")}}, {"<?xml v='>'?>a", list{text1("'?>a")}}, {"<?a", nil},
		{"</ >a", list{text1("a")}}, {"</ b>a", list{text1("a")}}, {"</3 b", nil}, {"<//>a", list{text1("a")}}, {"<//b>a", list{text1("a")}},
		{"</<b>a", list{text1("a")}}, {"</!-->a", list{text1("a")}}, {"</?a>b", list{text1("b")}}, {"</\x00>a", list{text1("a")}}, {"</\xff>a", list{text1("a")}}, {"</é>a", list{text1("a")}},
		{"</@>a</[>b</`>c</{>d", list{text1("a"), text1("b"), text1("c"), text1("d")}},
		{"<!<b>a</b>", list{text1("a"), end1("b")}}, {"<?<!-->a-->", list{text1("a-->")}},
		{"</\n", nil}, {"</&", nil}, {"x</=", list{text1("x")}},
	})
}

func TestTagNames(t *testing.T) {
	askRows(t, []row{
		{"<b>", list{start1("b")}}, {"</b>", list{end1("b")}}, {"<B>", list{start1("b")}}, {"</B>", list{end1("b")}}, {"<aZ09-_:.É>", list{start1("az09-_:.É")}},
		{"<z><Z></z></Z>", list{start1("z"), start1("z"), end1("z"), end1("z")}},
		{"<b\t><b\n><b\f><b\r><b >", list{start1("b"), start1("b"), start1("b"), start1("b"), start1("b")}},
		{"<b\v>", list{start1("b\v")}}, {"<b\x00>", list{start1("b\x00")}}, {"<b\xff\u00a0C>", list{start1("b\xff\u00a0c")}},
		{"<a=b>", list{start1("a=b")}}, {"<a\"b'>", list{start1("a\"b'")}}, {"<a<b>", list{start1("a<b")}}, {"<a&lt;>", list{start1("a&lt;")}}, {"<a!-->", list{start1("a!--")}},
		{"</a<b>", list{end1("a<b")}}, {"</b\n>", list{end1("b")}}, {"</b/>", list{end1("b")}},
		{"<\u212A>", list{text1("<\u212A>")}}, {"<a\u212A>", list{start1("a\u212A")}},
		{"<b", nil}, {"</b", nil}, {"<b ", nil}, {"<b/", nil}, {"</b\n", nil}, {"<b<p>", list{start1("b<p")}},
	})
}

func TestClosed(t *testing.T) {
	askRows(t, []row{
		{"<b/>", list{closed1("b")}}, {"<b />", list{closed1("b")}}, {"<b//>", list{closed1("b")}}, {"<b / />", list{closed1("b")}}, {"<b\n/\t/>", list{closed1("b")}},
		{"<b/ >", list{start1("b")}}, {"<b / >", list{start1("b")}}, {"<b/ / >", list{start1("b")}}, {"<b/\n>", list{start1("b")}},
		{"<b/c>", list{start1("b", "c", "")}}, {"<b/c/>", list{closed1("b", "c", "")}}, {"<b/ c>", list{start1("b", "c", "")}}, {"<b / c>", list{start1("b", "c", "")}},
		{"<b c/>", list{closed1("b", "c", "")}}, {"<b c />", list{closed1("b", "c", "")}}, {"<b c='d'/>", list{closed1("b", "c", "d")}}, {"<b c=\"d\" />", list{closed1("b", "c", "d")}},
		// A `/` that is of a value makes none.
		{"<b c=d/>", list{start1("b", "c", "d/")}}, {"<b c=/>", list{start1("b", "c", "/")}}, {"<b c= />", list{start1("b", "c", "/")}}, {"<b c='/'>", list{start1("b", "c", "/")}},
		{"<b c=d />", list{closed1("b", "c", "d")}}, {"<b c=d/ />", list{closed1("b", "c", "d/")}}, {"<b c=''/>", list{closed1("b", "c", "")}},
		{"<b/></b/></b c/></b />", list{closed1("b"), end1("b"), end1("b"), end1("b")}},
	})
}

func TestAttrs(t *testing.T) {
	askRows(t, []row{
		{"<p a>", list{start1("p", "a", "")}}, {"<p a=>", list{start1("p", "a", "")}}, {"<p a=1>", list{start1("p", "a", "1")}}, {"<p a=1 b=2>", list{start1("p", "a", "1", "b", "2")}},
		{"<p b a c>", list{start1("p", "b", "", "a", "", "c", "")}}, {"<p b=2 a=1>", list{start1("p", "b", "2", "a", "1")}},
		{"<p a=\"1\" b='2'>", list{start1("p", "a", "1", "b", "2")}}, {"<p a=\"1\"b='2'c>", list{start1("p", "a", "1", "b", "2", "c", "")}}, {"<p a=''b>", list{start1("p", "a", "", "b", "")}},
		{"<p a=\"\">", list{start1("p", "a", "")}}, {"<p a='>'>", list{start1("p", "a", ">")}}, {"<p a=\"x>&lt;\" >", list{start1("p", "a", "x><")}}, {"<p a=\"'\" b='\"'>", list{start1("p", "a", "'", "b", "\"")}},
		{"<p a=' x\n/='>", list{start1("p", "a", " x\n/=")}}, {"<p a='<b>'>c", list{start1("p", "a", "<b>"), text1("c")}},
		// Blanks around the `=`.
		{"<p a =1>", list{start1("p", "a", "1")}}, {"<p a= 1>", list{start1("p", "a", "1")}}, {"<p a\t\n=\f\r 1>", list{start1("p", "a", "1")}}, {"<p a = '1'>", list{start1("p", "a", "1")}}, {"<p a = >", list{start1("p", "a", "")}},
		{"<p a = b = c>", list{start1("p", "a", "b", "=", "", "c", "")}}, {"<p a b = c>", list{start1("p", "a", "", "b", "c")}},
		// A `/` parts a name from a `=`, but is of a value.
		{"<p a/=1>", list{start1("p", "a", "", "=1", "")}}, {"<p a /=1>", list{start1("p", "a", "", "=1", "")}}, {"<p a=/b/>", list{start1("p", "a", "/b/")}}, {"<p a= /b>", list{start1("p", "a", "/b")}}, {"<p/a/b>", list{start1("p", "a", "", "b", "")}},
		{"<p a=\"1\"/b>", list{start1("p", "a", "1", "b", "")}},
		// A name may begin with `=`, and goes on up to the next one.
		{"<p =>", list{start1("p", "=", "")}}, {"<p =a>", list{start1("p", "=a", "")}}, {"<p =a=1>", list{start1("p", "=a", "1")}}, {"<p ==>", list{start1("p", "=", "")}}, {"<p ===>", list{start1("p", "=", "=")}}, {"<p ='3' =b>", list{start1("p", "='3'", "b")}},
		{"<p = =a>", list{start1("p", "=", "a")}}, {"<p a==b>", list{start1("p", "a", "=b")}},
		// Quotes are of a name, and of a value that begins with none.
		{"<p \"a\">", list{start1("p", "\"a\"", "")}}, {"<p 'a b'>", list{start1("p", "'a", "", "b'", "")}}, {"<p a\"=1>", list{start1("p", "a\"", "1")}}, {"<p a=b\"c>", list{start1("p", "a", "b\"c")}}, {"<p a=b'c d'>", list{start1("p", "a", "b'c", "d'", "")}},
		{"<p a=b=c>", list{start1("p", "a", "b=c")}}, {"<p a=<b>", list{start1("p", "a", "<b")}}, {"<p <b>", list{start1("p", "<b", "")}}, {"<p a<b=c>", list{start1("p", "a<b", "c")}},
		{"<p a=`1`>", list{start1("p", "a", "`1`")}}, {"<p a='1'2>", list{start1("p", "a", "1", "2", "")}},
		// Bytes that are no blank.
		{"<p\va\v=\v1>", list{start1("p\va\v=\v1")}}, {"<p a\v=\v1\v>", list{start1("p", "a\v", "\v1\v")}}, {"<p \x00=\xff>", list{start1("p", "\x00", "\xff")}}, {"<p \u00a0=\u00a0>", list{start1("p", "\u00a0", "\u00a0")}}, {"<p é=É>", list{start1("p", "é", "É")}},
		{"<p a=\t1\nb=2\fc=3\rd=4>", list{start1("p", "a", "1", "b", "2", "c", "3", "d", "4")}},
	})
}

// TestAttrsNamesAndValues: names are small and not resolved, values resolved
// and not small; of each name there is the first.
func TestAttrsNamesAndValues(t *testing.T) {
	askRows(t, []row{
		{"<p A=B>", list{start1("p", "a", "B")}}, {"<p aBÉ=aBÉ>", list{start1("p", "abÉ", "aBÉ")}}, {"<p \xffA>", list{start1("p", "\xffa", "")}},
		{"<p a=&lt;>", list{start1("p", "a", "<")}}, {"<p a='&amp;lt;&#65;&no;&'>", list{start1("p", "a", "&lt;A&no;&")}}, {"<p a=\"&quot;>\">", list{start1("p", "a", "\">")}}, {"<p a=&quot;b c&quot;>", list{start1("p", "a", "\"b", "c&quot;", "")}},
		{"<p &lt;=1>", list{start1("p", "&lt;", "1")}}, {"<p &#97;>", list{start1("p", "&#97;", "")}}, {"<p a=&#32;b>", list{start1("p", "a", " b")}}, {"<p a=&#62;>", list{start1("p", "a", ">")}},
		{"<p a=1 a=2>", list{start1("p", "a", "1")}}, {"<p a A=2>", list{start1("p", "a", "")}}, {"<p A=1 a=2 b=3 B=4 A=5>", list{start1("p", "a", "1", "b", "3")}}, {"<p a=1 b=2 a=3>", list{start1("p", "a", "1", "b", "2")}}, {"<p a= a=2>", list{start1("p", "a", "a=2")}}, {"<p a='' a=2 />", list{closed1("p", "a", "")}},
		{"<p é=1 É=2>", list{start1("p", "é", "1", "É", "2")}}, {"<p k=1 \u212A=2>", list{start1("p", "k", "1", "\u212A", "2")}},
		// Names of one tag are not those of another.
		{"<p a=1><p a=2>", list{start1("p", "a", "1"), start1("p", "a", "2")}},
		// An end has none, but is read as far as they go.
		{"</p a=1 b>", list{end1("p")}}, {"</p a='>'>b", list{end1("p"), text1("b")}}, {"</p a=\">\"/>b", list{end1("p"), text1("b")}}, {"</p/ a / >", list{end1("p")}},
	})
}

// TestNoTag: where s ends within a tag there is neither it nor anything more,
// but what was ahead of it.
func TestNoTag(t *testing.T) {
	for _, s := range []string{
		"<p", "<P", "<p ", "<p/", "<p /", "<p a", "<p a ", "<p a/", "<p a=", "<p a= ", "<p a=b", "<p a=b ", "<p a='", "<p a=\"", "<p a='b", "<p a='b\">", "<p a=\"b'>",
		"<p a='b'", "<p a='b' ", "<p a='b'/", "<p a=\"<b>c</b>", "<p =", "<p ='", "<p =='>x", "<p a='>b<!--c-->", "<p a = \"> a", "<title a='></title>", "<script a=\">x",
	} {
		ends := "</" + s[1:]
		for _, in := range []string{s, ends} {
			askRows(t, []row{{in, nil}, {"a<b>c" + in, list{text1("a"), start1("b"), text1("c")}}, {"<!---->" + in, list{note1("")}}})
		}
	}
	askRows(t, []row{
		{"<p a='b>c'", nil}, {"<p <b", nil}, {"<p a='<b>'>c<q r='", list{start1("p", "a", "<b>"), text1("c")}},
		{"<p a=\"b\"\">", list{start1("p", "a", "b", "\"", "")}}, {"<p a='b''>", list{start1("p", "a", "b", "'", "")}},
	})
}

func TestRawTexts(t *testing.T) {
	askRows(t, []row{
		{"<script>a<b>&lt;</script>c", list{start1("script"), text1("a<b>&lt;"), end1("script"), text1("c")}},
		{"<SCRIPT>a</ScRiPt>", list{start1("script"), text1("a"), end1("script")}}, {"<script/>a&lt;", list{closed1("script"), text1("a&lt;")}}, {"<script a=1 />b</script>", list{closed1("script", "a", "1"), text1("b"), end1("script")}},
		{"<title>&lt;<b></titles></TITLE\n>", list{start1("title"), text1("<<b></titles>"), end1("title")}}, {"<title/>&lt;</title>", list{closed1("title"), text1("<"), end1("title")}},
		{"<textarea>&amp;lt;<!--</textarea>-->", list{start1("textarea"), text1("&lt;<!--"), end1("textarea"), text1("-->")}},
		// An empty text is none.
		{"<script></script>", list{start1("script"), end1("script")}}, {"<title></title>", list{start1("title"), end1("title")}}, {"<script>", list{start1("script")}}, {"<plaintext>", list{start1("plaintext")}}, {"<textarea/>", list{closed1("textarea")}},
		// What ends it, and what does not.
		{"<xmp>a</xmp\t><xmp>b</xmp\n><xmp>c</xmp\f><xmp>d</xmp\r>", list{start1("xmp"), text1("a"), end1("xmp"), start1("xmp"), text1("b"), end1("xmp"), start1("xmp"), text1("c"), end1("xmp"), start1("xmp"), text1("d"), end1("xmp")}},
		{"<xmp>a</xmp x='>'>b", list{start1("xmp"), text1("a"), end1("xmp"), text1("b")}}, {"<xmp>a</xmp/>b", list{start1("xmp"), text1("a"), end1("xmp"), text1("b")}},
		{"<xmp>a</xmp", list{start1("xmp"), text1("a</xmp")}}, {"<xmp>a</xmp ", list{start1("xmp"), text1("a")}}, {"<xmp>a</xmp/", list{start1("xmp"), text1("a")}}, {"<xmp></xmp a='>", list{start1("xmp")}},
		{"<xmp>a</xm", list{start1("xmp"), text1("a</xm")}}, {"<xmp>a</", list{start1("xmp"), text1("a</")}}, {"<xmp>a<", list{start1("xmp"), text1("a<")}},
		{"<xmp></xmpx></xmp=></xmp\v></xmp\x00></ xmp></x></xmp<></XMP>", list{start1("xmp"), text1("</xmpx></xmp=></xmp\v></xmp\x00></ xmp></x></xmp<>"), end1("xmp")}},
		{"<xmp><</xmp>", list{start1("xmp"), text1("<"), end1("xmp")}}, {"<xmp></</xmp>", list{start1("xmp"), text1("</"), end1("xmp")}}, {"<xmp></xm</xmp>", list{start1("xmp"), text1("</xm"), end1("xmp")}}, {"<xmp></xmp</xmp>", list{start1("xmp"), text1("</xmp"), end1("xmp")}},
		{"<xmp><xmp></xmp></xmp>", list{start1("xmp"), text1("<xmp>"), end1("xmp"), end1("xmp")}}, {"<xmp>a<xmp>", list{start1("xmp"), text1("a<xmp>")}},
		{"<style></script></style>", list{start1("style"), text1("</script>"), end1("style")}}, {"<script><!--</script>-->", list{start1("script"), text1("<!--"), end1("script"), text1("-->")}},
		{"<script></\u017fcript></script>", list{start1("script"), text1("</\u017fcript>"), end1("script")}}, {"<title></t\u0131tle></t\u0130tle></title>", list{start1("title"), text1("</t\u0131tle></t\u0130tle>"), end1("title")}},
		{"<iframe>&amp;\xff\x00\r</iframe>", list{start1("iframe"), text1("&amp;\xff\x00\r"), end1("iframe")}},
		// Where references count, they begin and end nothing.
		{"<title>&lt;/title></title>", list{start1("title"), text1("</title>"), end1("title")}}, {"<title></title&gt;></title>", list{start1("title"), text1("</title>>"), end1("title")}}, {"<title>&l</title>t;", list{start1("title"), text1("&l"), end1("title"), text1("t;")}},
		// Behind plaintext nothing ends it.
		{"<plaintext>a</plaintext>&lt;<b>", list{start1("plaintext"), text1("a</plaintext>&lt;<b>")}}, {"<PlainText/></plaintext ><", list{closed1("plaintext"), text1("</plaintext ><")}},
		// Only a start of such a name has raw text behind it.
		{"</script><b>", list{end1("script"), start1("b")}}, {"</plaintext><b>", list{end1("plaintext"), start1("b")}}, {"<scripts><b></script>", list{start1("scripts"), start1("b"), end1("script")}}, {"<p title><b>", list{start1("p", "title", ""), start1("b")}}, {"<title=a><b>", list{start1("title=a"), start1("b")}},
		{"<noscript><b></noscript>", list{start1("noscript"), start1("b"), end1("noscript")}}, {"<pre><b>&lt;", list{start1("pre"), start1("b"), text1("<")}},
	})
	for _, name := range strings.Fields("script style xmp iframe noembed noframes") {
		in := "<" + name + ">&lt;<b><!--</" + name + " >c"
		askRows(t, []row{{in, list{start1(name), text1("&lt;<b><!--"), end1(name), text1("c")}}})
	}
	for _, name := range []string{"textarea", "title"} {
		in := "<" + name + ">&lt;<b><!--</" + strings.ToUpper(name) + "/>c"
		askRows(t, []row{{in, list{start1(name), text1("<<b><!--"), end1(name), text1("c")}}})
	}
}

// TestOfAnEscapedText: the theorem's first half.
func TestOfAnEscapedText(t *testing.T) {
	for _, s := range []string{"a", "<b>", "</script>", "<!-- a -->", "<p a=\"b\">&lt;", "&amp;amp;", "\x00\xff\u00a0\r\n", "<", "</", "<?", "a < b"} {
		for _, quote := range []bool{false, true} {
			askRows(t, []row{{refs.Escape(s, quote), list{text1(s)}}})
		}
	}
	for _, s := range []string{"a", ">", "&lt;&#60;", "\xff"} {
		askRows(t, []row{{s, list{text1(refs.Resolve(s))}}})
	}
}

// TestAnswersAreNew: nothing that is told shares a byte with what was handed
// in, nor one list's place with another.
func TestAnswersAreNew(t *testing.T) {
	b := []byte("a&b<!--note--><p A=value B='v' c></p><title>raw</title><script>raw</script><plaintext>raw")
	in := unsafe.String(&b[0], len(b))
	got := Tokens(in)
	want := Tokens(string(b))
	for i := range b {
		b[i] = 'x'
	}
	if !same(got, want) {
		t.Errorf("the tokens share the text: %+v", got)
	}
	two := Tokens("<p a b><p a b>")
	_ = append(two[0].Attrs, api.Attr{Name: "x"})
	two[0].Attrs[0].Name = "y"
	askRows(t, []row{{"<p a b>", two[1:]}})
}

func TestLongTexts(t *testing.T) {
	const many = 1 << 18
	for _, c := range []struct {
		piece string
		want  int
	}{
		{"<", 1}, {"</ ", 0}, {"<!", 0}, {"<!>", 0}, {"<!--", 1}, {"<!---->", many}, {"<p", 0}, {"<p ", 0}, {"<p>", many}, {"</p>", many}, {"<p a='", 0}, {"a<p>", 2 * many},
		{"<title>", 2}, {"<title></", 2}, {"<script></scrip", 2}, {"<title></title", 2}, {"<title></title>", 2 * many}, {"< ", 1}, {"&<", 1}, {"<p =\"", 0}, {"a", 1}, {"</>", 0}, {"<?", 0},
	} {
		if n := len(Tokens(strings.Repeat(c.piece, many))); n != c.want {
			t.Errorf("%q, many times, has %d tokens, not %d", c.piece, n, c.want)
		}
	}
	var tag strings.Builder
	for i := range many {
		tag.WriteString(" a" + strconv.Itoa(i/2) + "=" + strconv.Itoa(i))
	}
	l := Tokens("<p" + tag.String() + ">")
	if len(l) != 1 || len(l[0].Attrs) != many/2 || l[0].Attrs[1] != (api.Attr{Name: "a1", Value: "2"}) {
		t.Error("a tag of many attributes")
	}
}
