package san

import (
	"fmt"
	"math"
	"reflect"
	"slices"
	"strconv"
	"strings"
	"testing"
	"unsafe"

	"verso/api"
	"verso/dom"
	"verso/policy"
	"verso/safe"
	"verso/ser"
	"verso/tok"
)

// The tests of ordinary inputs, and of the edges that the chapter names, say
// what they want one by one. Those in model_test.go hold the package against
// the chapter's words, at many pages, trees and policies.

const (
	dropped = "script style xmp iframe noembed noframes plaintext textarea title embed form math object select svg template noscript frameset"
	nofol   = "nofollow noopener"
)

// txt, elem, with and tree are what a tree is made of, as the tables write it.

func txt(s string) api.Node { return api.Node{Text: s} }

func elem(name string, kids ...api.Node) api.Node { return api.Node{Name: name, Kids: kids} }

// with is n with attributes: names and values, one behind the other.
func with(n api.Node, s ...string) api.Node {
	n.Attrs = nil
	for i := 0; i < len(s); i += 2 {
		n.Attrs = append(n.Attrs, api.Attr{Name: s[i], Value: s[i+1]})
	}
	return n
}

func tree(l ...api.Node) []api.Node { return l }

// link is an a that leads to a place, with what it must have.
func link(place string, kids ...api.Node) api.Node {
	return with(elem("a", kids...), "href", place, "rel", nofol)
}

// deepTree is a tree of one element within the other, and l in the innermost.
func deepTree(n int, name string, l ...api.Node) []api.Node {
	for range n {
		l = tree(elem(name, l...))
	}
	return l
}

// full is a policy with all lists, and with all that trees may be.
func full() api.Policy {
	return api.Policy{
		Epoch: 1, Elems: []string{"a", "b", "br", "i", "img", "li", "ol", "p", "ul"}, Attrs: []string{"*.class", "*.id", "a.href", "b.cite", "img.alt", "img.src"},
		Schemes: []string{"https", "mailto"}, Classes: []string{"h-card", "mention", "tag"}, Props: []string{"color", "text-align"}, Depth: 64, Nodes: 2000, Bytes: 16384,
	}
}

// change is a policy with something done to it.
func change(p api.Policy, do func(p *api.Policy)) api.Policy {
	do(&p)
	return p
}

// listsOf are the lists of a policy, for tests that ask all of them.
func listsOf(p *api.Policy) []*[]string {
	return []*[]string{&p.Elems, &p.Attrs, &p.Schemes, &p.Classes, &p.Props}
}

// same tells whether trees are the same, lists nil or empty.
func same(l, k []api.Node) bool {
	return slices.EqualFunc(l, k, func(n, m api.Node) bool {
		return n.Name == m.Name && n.Text == m.Text && slices.Equal(n.Attrs, m.Attrs) && same(n.Kids, m.Kids)
	})
}

// show is a tree as words: its page would not tell one text from two.
func show(l []api.Node) string { return fmt.Sprintf("%+q", l) }

func wantTree(t *testing.T, p api.Policy, l, want []api.Node) {
	t.Helper()
	if got := Tree(p, l); !same(got, want) {
		t.Errorf("Tree(%+v, %.300s) is\n%.300s, and not\n%.300s", p, show(l), show(got), show(want))
	}
}

func wantClean(t *testing.T, p api.Policy, raw, want string) {
	t.Helper()
	if got, e := Clean(p, []byte(raw)); got != want || e != api.OK {
		t.Errorf("Clean(%+v, %.300q) is %.300q, %d, and not %.300q", p, raw, got, e, want)
	}
}

func wantError(t *testing.T, p api.Policy, raw string, want api.Errno) {
	t.Helper()
	if got, e := Clean(p, []byte(raw)); got != "" || e != want {
		t.Errorf("Clean(%+v, %.300q) is %.300q, %d, and not the error %d", p, raw, got, e, want)
	}
}

func TestExamples(t *testing.T) {
	p := api.Policy{Epoch: 1, Elems: []string{"a"}, Attrs: []string{"a.href"}, Schemes: []string{"https"}, Depth: 9, Nodes: 99, Bytes: 16384}
	wantClean(t, p, `<a href="https://x" onclick=y>z</a><script>w</script>`, `<a href="https://x" rel="nofollow noopener">z</a>`)
	wantClean(t, p, `<b>x</b>`, `x`)
	wantClean(t, p, `a < b`, `a &lt; b`)
	// Those of the whole document.
	wantClean(t, p, "a\r\n\xff", "a\n\uFFFD")
	wantClean(t, full(), `<p>a<div>b</p>c`, `<p>a</p>b<p></p>c`)
	wantClean(t, p, `<a href="java&#9;script:x">y</a>`, `<a>y</a>`)
	wantClean(t, p, `<a href=https://x>y`, `<a href="https://x" rel="nofollow noopener">y</a>`)
	wantClean(t, p, `<script>x</script>y`, `y`)
	wantClean(t, p, `<title><b></title>y`, `y`)
	wantClean(t, p, strings.Repeat("<b>", 3000), strings.Repeat("&lt;b&gt;", 3000))
	wantClean(t, p, strings.Repeat("<br>", 3000), strings.Repeat("&lt;br&gt;", 3000))
}

func TestDropped(t *testing.T) {
	for _, name := range strings.Fields(dropped) {
		if !Dropped(name) {
			t.Errorf("%q is dropped", name)
		}
		for _, other := range []string{name + "s", name + " ", " " + name, name + "\x00", strings.ToUpper(name), strings.ToUpper(name[:1]) + name[1:], name[1:], name[:len(name)-1], name + "-", "x-" + name, name + name, "<" + name + ">"} {
			if Dropped(other) {
				t.Errorf("%q is not dropped", other)
			}
		}
	}
	for _, name := range []string{"", " ", "a", "b", "p", "br", "div", "base", "input", "link", "meta", "param", "frame", "applet", "audio", "video", "canvas", "head", "body", "html", "option", "button", "label", "fieldset", "mi", "path", "\xff", dropped} {
		if Dropped(name) {
			t.Errorf("%q is not dropped", name)
		}
	}
}

// TestTreeDropped: of what is dropped nothing is left, wherever it stands, and
// even by a policy that lets it (and so may not be).
func TestTreeDropped(t *testing.T) {
	for _, name := range strings.Fields(dropped) {
		lets := change(full(), func(p *api.Policy) { p.Elems = append([]string{name}, p.Elems...) })
		for _, p := range []api.Policy{full(), lets, {}, {Elems: []string{name}}} {
			wantTree(t, p, tree(elem(name)), nil)
			wantTree(t, p, tree(with(elem(name, txt("a"), elem("b", txt("c"))), "id", "x")), nil)
			wantTree(t, p, tree(txt("a"), elem(name, txt("x")), txt("b")), tree(txt("ab")))
			wantTree(t, p, tree(elem("u", elem(name, elem("b"))), txt("b")), tree(txt("b")))
			wantTree(t, p, tree(api.Node{Name: name, Text: "a"}), nil)
		}
		wantTree(t, lets, tree(elem("b", txt("a"), elem(name, elem("i", txt("x"))), elem("i"))), tree(elem("b", txt("a"), elem("i"))))
		wantTree(t, lets, tree(elem(strings.ToUpper(name), txt("a"))), tree(txt("a")))
	}
	// One that is in a policy's list of those that never may stay, but is not
	// dropped, is as any other one.
	for _, name := range []string{"base", "input", "link", "meta", "param", "frame"} {
		wantTree(t, full(), tree(elem(name, txt("a"))), tree(txt("a")))
	}
}

// TestTreeElems: what may stay does, and of what may not its kids stand in its
// place.
func TestTreeElems(t *testing.T) {
	p := full()
	for _, l := range [][]api.Node{
		nil, tree(txt("a")), tree(elem("b")), tree(elem("b", txt("a")), elem("b", txt("a"))), tree(txt("a"), elem("br"), txt("b")), tree(elem("p", txt("a"), elem("b", elem("i", txt("c"))))), tree(elem("ul", elem("li", txt("a")), elem("li", elem("ol", elem("li"))))),
		tree(elem("b", elem("b", elem("b")))), tree(txt("<b>&amp;\x00\r\xff\u00a0")), tree(elem("p", elem("p"))), tree(elem("br", txt("a"))), deepTree(1000, "b", txt("a")),
	} {
		wantTree(t, p, l, l)
		wantTree(t, p, tree(elem("u", l...)), l)
		wantTree(t, p, deepTree(999, "u", l...), l)
		wantTree(t, p, tree(elem("i", l...), elem("br")), tree(elem("i", l...), elem("br")))
		wantTree(t, p, append(tree(elem("br"), elem("u", l...)), elem("br")), append(append(tree(elem("br")), l...), elem("br")))
		wantTree(t, api.Policy{}, l, textOnly(l))
	}
	wantTree(t, p, tree(elem("u")), nil)
	wantTree(t, p, tree(elem("u", elem("u"), elem("u", elem("u")))), nil)
	wantTree(t, p, tree(elem("u", elem("b", elem("u", elem("i"), elem("u"), elem("br"))), elem("br"))), tree(elem("b", elem("i"), elem("br")), elem("br")))
	for _, name := range []string{"B", "b ", " b", "bb", "u", "*", "div", "a.b", "\xff", "input", "base"} {
		wantTree(t, p, tree(elem(name, elem("b", txt("x")), txt("y"))), tree(elem("b", txt("x")), txt("y")))
		q := change(p, func(p *api.Policy) { p.Elems = append(p.Elems, name) })
		wantTree(t, q, tree(elem(name, elem("b", txt("x")), txt("y"))), tree(elem(name, elem("b", txt("x")), txt("y"))))
	}
	// A policy's limits do not count here.
	none := change(p, func(p *api.Policy) { p.Nodes, p.Depth, p.Bytes, p.Epoch = 0, math.MinInt, -1, 0 })
	wantTree(t, none, tree(elem("b", elem("b", txt("abc")))), tree(elem("b", elem("b", txt("abc")))))
}

func textOnly(l []api.Node) []api.Node {
	if s := dom.Text(l); s != "" {
		return tree(txt(s))
	}
	return nil
}

// TestTreeTexts: texts that come to stand side by side are one, and none is
// empty.
func TestTreeTexts(t *testing.T) {
	p := full()
	for _, l := range [][]api.Node{
		tree(txt("abc")), tree(txt("a"), txt("bc")), tree(txt("a"), txt(""), txt("bc")), tree(txt(""), txt("abc"), txt("")), tree(txt("a"), elem("u", txt("b")), txt("c")), tree(elem("u", txt("a")), elem("u", txt("b")), elem("u", txt("c"))),
		tree(elem("u", txt("a"), elem("u", txt("b"))), txt("c")), tree(txt("a"), elem("u"), txt("bc")), tree(txt("a"), elem("script", txt("x")), txt("bc")), tree(elem("u", txt("a"), elem("svg", elem("b"))), elem("u", elem("u"), txt("bc"))),
	} {
		wantTree(t, p, l, tree(txt("abc")))
		wantTree(t, p, tree(elem("b", l...)), tree(elem("b", txt("abc"))))
		wantTree(t, p, append(slices.Clone(l), l...), tree(txt("abcabc")))
		wantTree(t, p, append(append(slices.Clone(l), elem("b")), l...), tree(txt("abc"), elem("b"), txt("abc")))
		wantTree(t, p, append(append(slices.Clone(l), elem("b", l...)), l...), tree(txt("abc"), elem("b", txt("abc")), txt("abc")))
		wantTree(t, p, append(append(slices.Clone(l), elem("u", append(slices.Clone(l), elem("b"))...)), l...), tree(txt("abcabc"), elem("b"), txt("abc")))
	}
	for _, l := range [][]api.Node{tree(txt("")), tree(txt(""), txt("")), tree(elem("u", txt(""))), tree(txt(""), elem("u"), txt(""))} {
		wantTree(t, p, l, nil)
		wantTree(t, p, tree(elem("b", l...), elem("b")), tree(elem("b"), elem("b")))
	}
	// Blanks are no less than other bytes, and texts that an element parts are
	// two.
	wantTree(t, p, tree(txt(" "), txt("\n"), elem("b", txt("\t"))), tree(txt(" \n"), elem("b", txt("\t"))))
	wantTree(t, p, tree(txt("a"), elem("br"), txt("b"), txt("c"), elem("br")), tree(txt("a"), elem("br"), txt("bc"), elem("br")))
}

// TestTreeOddNodes: a node of a tree that was not built may have fields of the
// other kind; no sentence names them.
func TestTreeOddNodes(t *testing.T) {
	p := full()
	wantTree(t, p, tree(api.Node{Name: "b", Text: "x", Kids: tree(txt("a"))}), tree(elem("b", txt("a"))))
	wantTree(t, p, tree(api.Node{Name: "u", Text: "x", Kids: tree(txt("a"))}), tree(txt("a")))
	wantTree(t, p, tree(api.Node{Text: "a", Attrs: []api.Attr{{Name: "id", Value: "x"}}, Kids: tree(elem("script"))}, txt("b")), tree(txt("ab")))
	wantTree(t, p, tree(api.Node{Kids: tree(elem("b"))}), nil)
	lets := change(p, func(p *api.Policy) { p.Elems = append([]string{""}, p.Elems...) })
	wantTree(t, lets, tree(txt("a"), txt("b"), with(txt("c"), "id", "x")), tree(txt("abc")))
	wantTree(t, lets, tree(txt("")), nil)
}

// wantAttrs asks which attributes of an element stay; both are names and
// values, one behind the other.
func wantAttrs(t *testing.T, p api.Policy, name string, attrs, want []string) {
	t.Helper()
	wantTree(t, p, tree(with(elem(name, txt("t")), attrs...)), tree(with(elem(name, txt("t")), want...)))
	wantTree(t, p, tree(elem("u", with(elem(name), attrs...)), txt("t")), tree(with(elem(name), want...), txt("t")))
}

func TestAttrsRel(t *testing.T) {
	letsRel := change(full(), func(p *api.Policy) { p.Attrs = []string{"*.href", "*.id", "*.rel", "a.rel"} })
	for _, p := range []api.Policy{full(), letsRel} {
		for _, rel := range []string{"", "me", nofol, "nofollow", "opener", "noopener nofollow"} {
			wantAttrs(t, p, "a", []string{"rel", rel}, nil)
			wantAttrs(t, p, "b", []string{"rel", rel}, nil)
			wantAttrs(t, p, "a", []string{"rel", rel, "href", "/x"}, []string{"href", "/x", "rel", nofol})
			wantAttrs(t, p, "a", []string{"href", "/x", "rel", rel}, []string{"href", "/x", "rel", nofol})
			wantAttrs(t, p, "a", []string{"href", "/x", "rel", rel, "id", "y"}, []string{"href", "/x", "id", "y", "rel", nofol})
			wantAttrs(t, p, "a", []string{"href", "http:x", "rel", rel, "id", "y"}, []string{"id", "y"})
			wantAttrs(t, p, "a", []string{"rel", rel, "rel", rel, "href", "", "rel", rel}, []string{"href", "", "rel", nofol})
		}
		wantAttrs(t, p, "a", nil, nil)
		wantAttrs(t, p, "a", []string{"href", "/x"}, []string{"href", "/x", "rel", nofol})
		wantAttrs(t, p, "a", []string{"id", "y", "href", "https://x"}, []string{"id", "y", "href", "https://x", "rel", nofol})
		wantAttrs(t, p, "a", []string{"HREF", "/x", "REL", nofol, "xhref", "/x"}, nil)
	}
	// Without an href that stays there is none; nor is there of another element.
	wantAttrs(t, full(), "b", []string{"href", "/x", "id", "y"}, []string{"id", "y"})
	wantAttrs(t, letsRel, "b", []string{"href", "/x", "rel", nofol}, []string{"href", "/x"})
	wantAttrs(t, change(full(), func(p *api.Policy) { p.Attrs = []string{"*.id"} }), "a", []string{"href", "/x", "id", "y"}, []string{"id", "y"})
	wantAttrs(t, full(), "a", []string{"href", "//x"}, nil)
	// Of a name that is there twice, in a tree that was not built, each is
	// asked; the rel is one.
	wantAttrs(t, full(), "a", []string{"href", "/x", "href", "http:x", "href", "/y"}, []string{"href", "/x", "href", "/y", "rel", nofol})
	// Each link gets its own one.
	wantTree(t, full(), tree(with(elem("a", with(elem("a"), "href", "/y")), "href", "/x"), with(elem("a"), "href", "/z")), tree(link("/x", link("/y")), link("/z")))
	wantTree(t, full(), tree(elem("a", with(elem("img"), "src", "/y"), with(elem("a"), "href", "/x"))), tree(elem("a", with(elem("img"), "src", "/y"), link("/x"))))
}

func TestAttrsStyle(t *testing.T) {
	letsStyle := change(full(), func(p *api.Policy) { p.Attrs = append(p.Attrs, "*.style") })
	letsNone := change(full(), func(p *api.Policy) { p.Attrs = nil })
	for _, p := range []api.Policy{full(), letsStyle, letsNone} {
		for _, name := range p.Elems {
			for v, want := range map[string]string{
				"color: red": "color: red", "color:red": "color: red", " Color : RED ;": "color: red", "color:red;x:y": "color: red", "color:red;text-align:left": "color: red; text-align: left", "text-align:left;color:red": "text-align: left; color: red",
				"color:red;color:blue": "color: blue", "color:url(x);color:#f00": "color: #f00", "x;;color:1px": "color: 1px", "color:red;color:url(x)": "color: red",
			} {
				wantAttrs(t, p, name, []string{"style", v}, []string{"style", want})
				wantAttrs(t, change(p, func(p *api.Policy) { p.Props = nil }), name, []string{"style", v}, nil)
				wantAttrs(t, change(p, func(p *api.Policy) { p.Props = p.Classes }), name, []string{"style", v}, nil)
			}
			for _, v := range []string{"", " ", ";", ":", "color", "color:", "width: 1px", "color: url(x)", "color: \"x\"", "color: é", "color: " + strings.Repeat("x", 101)} {
				wantAttrs(t, p, name, []string{"style", v}, nil)
			}
			wantAttrs(t, p, name, []string{"STYLE", "color: red", "styles", "color: red"}, nil)
		}
	}
	wantAttrs(t, full(), "b", []string{"id", "x", "style", "color:red", "class", "tag"}, []string{"id", "x", "style", "color: red", "class", "tag"})
	wantAttrs(t, full(), "b", []string{"style", "color:red", "style", "x", "style", "text-align:a"}, []string{"style", "color: red", "style", "text-align: a"})
}

func TestAttrsClass(t *testing.T) {
	p := full()
	for _, name := range p.Elems {
		for v, want := range map[string]string{
			"tag": "tag", "mention tag": "mention tag", "tag mention": "tag mention", "tag x mention": "tag mention", "x tag": "tag", "tag x": "tag", " tag": "tag", "tag ": "tag", "  tag   mention  ": "tag mention", "tag tag": "tag", "tag mention tag": "tag mention",
			"mention tag mention h-card tag": "mention tag h-card", "x mention  h-card mention": "mention h-card", "tag Tag TAG": "tag", "tag tag-": "tag", "tag\tmention h-card": "h-card", "tag\n mention": "mention", "tag\u00a0 tag": "tag", "h card h-card": "h-card", "x x tag x x": "tag",
		} {
			wantAttrs(t, p, name, []string{"class", v}, []string{"class", want})
			wantAttrs(t, change(p, func(p *api.Policy) { p.Classes = nil }), name, []string{"class", v}, nil)
			wantAttrs(t, change(p, func(p *api.Policy) { p.Attrs = []string{name + ".class"} }), name, []string{"class", v}, []string{"class", want})
			wantAttrs(t, change(p, func(p *api.Policy) { p.Attrs = []string{"*.id", "class", name + ".classes", name + "x.class"} }), name, []string{"class", v}, nil)
		}
		for _, v := range []string{"", " ", "   ", "x", "x y", "Tag", "tagmention", "tag,mention", "tag\tmention", "tag\nmention", "tag\fmention", "\xff", "color", "https"} {
			wantAttrs(t, p, name, []string{"class", v}, nil)
		}
		wantAttrs(t, p, name, []string{"CLASS", "tag", "classes", "tag"}, nil)
	}
	// Two attributes of one name, in a tree that was not built, do not count as
	// one.
	wantAttrs(t, p, "b", []string{"class", "tag x", "class", "tag", "class", "x"}, []string{"class", "tag", "class", "tag"})
	// An empty part is one as others, and a part that stays: some policy that
	// may not be has it.
	empty := change(p, func(p *api.Policy) { p.Classes = []string{"", "tag", "x", "tag x"} })
	for v, want := range map[string]string{"": "", " ": "", "   ": "", "tag": "tag", "tag ": "tag ", " tag": " tag", "tag  x": "tag  x", "tag  x  tag": "tag  x", " tag x ": " tag x", "y": "none", "y y": "none", "y  y": ""} {
		if want == "none" {
			wantAttrs(t, empty, "b", []string{"class", v}, nil)
			continue
		}
		wantAttrs(t, empty, "b", []string{"class", v}, []string{"class", want})
	}
	odd := change(p, func(p *api.Policy) { p.Classes = []string{"z", "c", "c", "a"} })
	wantAttrs(t, odd, "b", []string{"class", "a b c c z a"}, []string{"class", "a c z"})
}

// TestAttrsOthers: any other one stays as it is, if it may.
func TestAttrsOthers(t *testing.T) {
	p := full()
	for _, v := range []string{"", "x", "x  x", " x ", "javascript:x", "//x", "\xff\x00\r", "\"<>&", "color:RED", "tag tag"} {
		for _, name := range p.Elems {
			wantAttrs(t, p, name, []string{"id", v}, []string{"id", v})
			wantAttrs(t, p, name, []string{"ID", v, "id", v, "onclick", v, "", v, "*", v, "*.id", v}, []string{"id", v})
		}
		wantAttrs(t, p, "img", []string{"alt", v}, []string{"alt", v})
		wantAttrs(t, p, "b", []string{"alt", v}, nil)
	}
	for _, v := range []string{"", "/x", "x", " https://x ", "HTTPS:x", "ht\ttps:x", "mailto:a@b", "#x"} {
		wantAttrs(t, p, "a", []string{"href", v}, []string{"href", v, "rel", nofol})
		wantAttrs(t, p, "img", []string{"src", v, "alt", "y"}, []string{"src", v, "alt", "y"})
		wantAttrs(t, p, "b", []string{"src", v, "href", v, "cite", v, "poster", v}, []string{"cite", v})
	}
	for _, v := range []string{"//x", "http:x", "javascript:x", " java\tscript:x", "\x01javascript:x", "data:x", "\\x", "/\\x", "a\x00b", "a\x7f"} {
		wantAttrs(t, p, "a", []string{"href", v, "id", v}, []string{"id", v})
		wantAttrs(t, p, "img", []string{"src", v, "alt", v}, []string{"alt", v})
		wantAttrs(t, p, "b", []string{"cite", v}, nil)
	}
	wantAttrs(t, p, "b", []string{"id", "1", "x", "2", "cite", "/3", "y", "4", "class", "tag"}, []string{"id", "1", "cite", "/3", "class", "tag"})
	// In another order it is that one; in a tree that was not built each stays.
	wantAttrs(t, p, "b", []string{"class", "tag", "cite", "/3", "id", "1", "id", "1"}, []string{"class", "tag", "cite", "/3", "id", "1", "id", "1"})
	// What p is is not asked here.
	odd := change(p, func(p *api.Policy) { p.Attrs = []string{"*.onclick", "*.srcdoc", "b.HREF"} })
	wantAttrs(t, odd, "b", []string{"onclick", "x", "srcdoc", "<b>", "HREF", "javascript:x"}, []string{"onclick", "x", "srcdoc", "<b>", "HREF", "javascript:x"})
}

func TestCleanPages(t *testing.T) {
	p := full()
	for raw, want := range map[string]string{
		"":                               "",
		"a":                              "a",
		" \n\t":                          " \n\t",
		"a\r\nb\rc\x00":                  "a\nb\nc\uFFFD",
		"a&b":                            "a&amp;b",
		"&lt;b&gt;":                      "&lt;b&gt;",
		"&amp;lt;":                       "&amp;lt;",
		"a\u00a0b&nbsp;":                 "a&nbsp;b&nbsp;",
		"&#60;b&#62;&#0;&#13;":           "&lt;b&gt;\uFFFD\uFFFD",
		"\"'":                            "\"'",
		"<b>x":                           "<b>x</b>",
		"<B>x</B>":                       "<b>x</b>",
		"x</b>":                          "x",
		"<u>x</u>":                       "x",
		"x<u>y</u>z":                     "xyz",
		"<b><u>x</b>y</u>":               "<b>x</b>y",
		"<br/>x<br></br>":                "<br>x<br><br>",
		"</p>":                           "<p></p>",
		"<p>a<p>b":                       "<p>a</p><p>b</p>",
		"<p>a<div>b<p>c":                 "<p>a</p>b<p>c</p>",
		"<ul><li>a<li>b</ul>":            "<ul><li>a</li><li>b</li></ul>",
		"<!-- <b> -->x<!y>":              "x",
		"<b <i>x":                        "<b>x</b>",
		"x<b":                            "x",
		"x<b id=\"y":                     "x",
		"<svg><b>x</b></svg>y":           "y",
		"<svg>x":                         "",
		"<form>x<b>y</form>z":            "z",
		"<embed>x":                       "x",
		"<plaintext>x</plaintext>y":      "",
		"<textarea><b></textarea>y":      "y",
		"<SCRIPT>x</scRIPT >y":           "y",
		"<script/>x":                     "",
		"<noscript><b>x</noscript>y":     "y",
		"<img src=/x alt='a\"b' y>":      `<img src="/x" alt="a&quot;b">`,
		"<b id='<i>' id=2>x":             `<b id="&lt;i&gt;">x</b>`,
		"<b id=\"&quot;&#10;\r\n\">":     "<b id=\"&quot;\n\n\"></b>",
		"<b class=&#116;ag>":             `<b class="tag"></b>`,
		"<a href=' https://x?a&amp;b'>y": `<a href=" https://x?a&amp;b" rel="nofollow noopener">y</a>`,
		"<a HREF=/x REL=me>y<a>z":        `<a href="/x" rel="nofollow noopener">y<a>z</a></a>`,
		"<a href=&#106;avascript:x>y":    `<a>y</a>`,
		"<a href='&#1;javascript:x'>y":   `<a>y</a>`,
		"<a rel='nofollow noopener'>y":   `<a>y</a>`,
		"<p style='COLOR:Red;x:y'>":      `<p style="color: red"></p>`,
		"<p style='color:url(x)'>":       `<p></p>`,
		"<p\fclass='tag\ttag'>":          `<p></p>`,
		"<x-y a=b>z":                     "z",
		"\xff<b>\xe2\x82</b>":            "\uFFFD<b>\uFFFD\uFFFD</b>",
		"<\xff>":                         "&lt;\uFFFD&gt;",
		"<b\xff>x":                       "x",
	} {
		wantClean(t, p, raw, want)
		wantClean(t, p, want, want)
	}
}

// TestCleanErrors: a policy that may not be is asked for first, whatever the
// page is; and then the page's bytes.
func TestCleanErrors(t *testing.T) {
	for _, do := range []func(p *api.Policy){
		func(p *api.Policy) { *p = api.Policy{} },
		func(p *api.Policy) { p.Epoch = 0 },
		func(p *api.Policy) { p.Epoch = 1000001 },
		func(p *api.Policy) { p.Nodes = 0 },
		func(p *api.Policy) { p.Nodes = 2001 },
		func(p *api.Policy) { p.Depth = 0 },
		func(p *api.Policy) { p.Depth = 65 },
		func(p *api.Policy) { p.Bytes = 0 },
		func(p *api.Policy) { p.Bytes = 16385 },
		func(p *api.Policy) { p.Bytes = math.MinInt },
		func(p *api.Policy) { p.Elems = []string{"script"} },
		func(p *api.Policy) { p.Elems = []string{"p", "b"} },
		func(p *api.Policy) { p.Elems, p.Attrs = []string{"li", "ul"}, nil },
		func(p *api.Policy) { p.Attrs = []string{"*.onclick"} },
		func(p *api.Policy) { p.Attrs = []string{"*.style"} },
		func(p *api.Policy) { p.Attrs = []string{"u.id"} },
		func(p *api.Policy) { p.Schemes = []string{"javascript"} },
		func(p *api.Policy) { p.Classes = []string{""} },
		func(p *api.Policy) { p.Props = []string{"A"} },
	} {
		p := change(full(), do)
		if policy.Right(p) {
			t.Fatalf("%+v may be", p)
		}
		for _, raw := range []string{"", "a", "<b>", strings.Repeat("a", 16385), strings.Repeat("<b>", 3000), "\xff"} {
			wantError(t, p, raw, api.ErrForm)
		}
	}
	for _, most := range []int{1, 2, 3, 99, 16384} {
		p := change(full(), func(p *api.Policy) { p.Bytes = most })
		for _, raw := range []string{"a", "<", "\x00", "\r", "\xff", " "} {
			wantError(t, p, strings.Repeat(raw, most+1), api.ErrLarge)
			wantError(t, p, strings.Repeat(raw, 40000), api.ErrLarge)
			if _, e := Clean(p, []byte(strings.Repeat(raw, most))); e != api.OK {
				t.Errorf("%d bytes %q: %d", most, raw, e)
			}
		}
		wantClean(t, p, "", "")
	}
	// The raw bytes count, not what is made of them.
	three := change(full(), func(p *api.Policy) { p.Bytes = 3 })
	wantError(t, three, "\r\n\r\n", api.ErrLarge)
	wantError(t, three, "<i> ", api.ErrLarge)
	wantClean(t, three, "\xff\xff\xff", "\uFFFD\uFFFD\uFFFD")
	wantClean(t, three, "<<<", "&lt;&lt;&lt;")
	wantClean(t, three, "<i>", "<i></i>")
	wantError(t, three, "<i></i>", api.ErrLarge)
	wantError(t, three, "\uFFFDa", api.ErrLarge)
}

// TestCleanCaps: the clean tree may be just as large as the policy lets, and
// the page's own just as any; else all of the page is shown as text.
func TestCleanCaps(t *testing.T) {
	caps := func(nodes, deep int) api.Policy {
		return change(full(), func(p *api.Policy) { p.Nodes, p.Depth = nodes, deep })
	}
	for _, c := range []struct {
		raw, clean, text string
		nodes, deep      int
	}{
		{"<b></b>", "<b></b>", "&lt;b&gt;&lt;/b&gt;", 1, 1},
		{"a<br>b", "a<br>b", "a&lt;br&gt;b", 3, 1},
		{"<b><i>a</i></b>", "<b><i>a</i></b>", "&lt;b&gt;&lt;i&gt;a&lt;/i&gt;&lt;/b&gt;", 3, 2},
		{"<b><u><i>a<u>b</u>", "<b><i>ab</i></b>", "&lt;b&gt;&lt;u&gt;&lt;i&gt;a&lt;u&gt;b&lt;/u&gt;", 3, 2},
		{"<svg><b><b><b></svg>a<b>\"", "a<b>\"</b>", "&lt;svg&gt;&lt;b&gt;&lt;b&gt;&lt;b&gt;&lt;/svg&gt;a&lt;b&gt;\"", 3, 1},
		{"<b>\r\n\xff&nbsp;\u00a0</b>", "<b>\n\uFFFD&nbsp;&nbsp;</b>", "&lt;b&gt;\n\uFFFD&amp;nbsp;&nbsp;&lt;/b&gt;", 2, 1},
		{"<b></b><i></i><b></b><b><b></b></b>", "<b></b><i></i><b></b><b><b></b></b>", "&lt;b&gt;&lt;/b&gt;&lt;i&gt;&lt;/i&gt;&lt;b&gt;&lt;/b&gt;&lt;b&gt;&lt;b&gt;&lt;/b&gt;&lt;/b&gt;", 5, 2},
	} {
		for nodes := max(1, c.nodes-2); nodes <= c.nodes+2; nodes++ {
			for deep := max(1, c.deep-2); deep <= c.deep+2; deep++ {
				want := c.text
				if nodes >= c.nodes && deep >= c.deep {
					want = c.clean
				}
				wantClean(t, caps(nodes, deep), c.raw, want)
			}
		}
	}
	// A text alone is never too much.
	wantClean(t, caps(1, 1), "a<u>b</u>c<svg>", "abc")
	wantClean(t, caps(1, 1), "<u><u><u></u></u></u>", "")
}

// TestCleanBuilt: a page whose own tree is too large is shown as text, even if
// what is left of it would be small.
func TestCleanBuilt(t *testing.T) {
	p := full()
	deep := func(n int, name string) string { return strings.Repeat("<"+name+">", n) }
	escape := func(s string) string { return strings.NewReplacer("<", "&lt;", ">", "&gt;").Replace(s) }
	wantClean(t, p, deep(64, "u")+"x", "x")
	wantClean(t, p, deep(65, "u")+"x", escape(deep(65, "u"))+"x")
	wantClean(t, p, deep(64, "b")+"x", deep(64, "b")+"x"+strings.Repeat("</b>", 64))
	wantClean(t, p, deep(65, "b")+"x", escape(deep(65, "b"))+"x")
	wantClean(t, p, "<svg>"+deep(63, "u")+"</svg>x", "x")
	wantClean(t, p, "<svg>"+deep(64, "u")+"</svg>x", "&lt;svg&gt;"+escape(deep(64, "u"))+"&lt;/svg&gt;x")
	wantClean(t, p, deep(2000, "wbr"), "")
	wantClean(t, p, deep(2001, "wbr"), escape(deep(2001, "wbr")))
	wantClean(t, p, deep(1999, "wbr")+"x", "x")
	wantClean(t, p, deep(2000, "wbr")+"x", escape(deep(2000, "wbr"))+"x")
	wantClean(t, p, deep(2000, "br"), deep(2000, "br"))
	wantClean(t, p, deep(2001, "br"), escape(deep(2001, "br")))
	wantClean(t, p, strings.Repeat("<u></u>", 1999)+"x", "x")
	// References, quotes and blanks, of a page that is shown as text.
	wantClean(t, p, deep(65, "u")+"\"'&amp;&lt;\u00a0\r\n\x00\xff", escape(deep(65, "u"))+"\"'&amp;amp;&amp;lt;&nbsp;\n\uFFFD\uFFFD")
}

// checkTheorem asks P11.5 of a page; it tells what is clean.
func checkTheorem(t *testing.T, p api.Policy, raw string) string {
	t.Helper()
	s, e := Clean(p, []byte(raw))
	if e != api.OK {
		t.Fatalf("Clean(%+v, %.300q) is the error %d", p, raw, e)
	}
	l, e := dom.Build(tok.Tokens(s))
	if e != api.OK || !safe.Safe(p, l) {
		t.Fatalf("Clean(%+v, %.300q) is %.300q, which is read as a tree that is not safe: %+v, %d", p, raw, s, l, e)
	}
	if page := ser.HTML(l); page != s {
		t.Fatalf("Clean(%+v, %.300q) is %.300q, and its tree's page %.300q", p, raw, s, page)
	}
	again, e := Clean(p, []byte(s))
	if len(s) > p.Bytes {
		if again != "" || e != api.ErrLarge {
			t.Fatalf("%.300q is too large: %.300q, %d", s, again, e)
		}
	} else if again != s || e != api.OK {
		t.Fatalf("Clean(%+v, %.300q) is %.300q, and again %.300q, %d", p, raw, s, again, e)
	}
	return s
}

// TestTheorem: pages of which some reader might read more than they show.
func TestTheorem(t *testing.T) {
	tight := change(full(), func(p *api.Policy) { p.Nodes, p.Depth = 3, 2 })
	for _, raw := range []string{
		"", "<", "</", "</>", "<b", "<b/", "<b id", "<b id=", "<b id='", "&", "&#", "&#x;", "&lt", "&amp;lt;", "<!--", "<!-->", "<!--><b>-->", "<?x", "<![CDATA[<b>]]>", "<b/id=x>", "<b =x>", "<b id=x'y>", "<b id=\"x\"class=tag>", "<b\x00>", "<\x00b>",
		"<scr<script>ipt>x</script>y", "<<b>script>x", "<svg><title><b id=\"</title><img src=x onerror=y>\">", "<noscript><p title=\"</noscript><img src=x>\">", "<math><mtext><b><a href=javascript:x>", "<form><form><b>", "<select><b>x</select>y", "<template><b>",
		"<p><ul><li><p>a<li>b</ul></p>", "<li><li><ul><li><div><li>", "<u><li><u><li>", "<p><b><div><i>a</b>c", "<a href=/x><a href=/y>z</a></a>", "<ol><li><ul></li><li></ul>", "<pre>\n\nx</pre>", "<p>a<svg><p>b</svg>c", "<p><form><p></form>", "<br>a</br>b</p>c",
		"<a href='//x'><a href='/\n/x'><a href='\\\\x'>", "<b style='color:red;color:expression(x)'>", "<b class='tag  tag mention '>", "<b id='&quot;&gt;<i>'>x", "<img src=x alt='a>b'>", "<b id=&#0;&#13;&#xD800;>&#128;", "\xef\xbb\xbf<b>", "\u2028<b>", "\xc2<b>\xa0",
		strings.Repeat("<b>", 70), strings.Repeat("<br>", 3000), strings.Repeat("&", 16384), strings.Repeat("\xff", 16384), strings.Repeat("<p>", 2000), strings.Repeat("<li>", 2001), strings.Repeat("<ul><li>", 32), strings.Repeat("<ul><li>", 33),
	} {
		for _, p := range []api.Policy{full(), tight, {Epoch: 1, Depth: 1, Nodes: 1, Bytes: 16384}} {
			checkTheorem(t, p, raw)
		}
	}
}

// checkSafePage asks P11.5 of a tree that is safe: its page is clean.
func checkSafePage(t *testing.T, p api.Policy, l []api.Node) {
	t.Helper()
	if !safe.Safe(p, l) {
		t.Fatalf("%+v is not safe by %+v", l, p)
	}
	wantTree(t, p, l, l)
	if page := ser.HTML(l); len(page) > p.Bytes {
		wantError(t, p, page, api.ErrLarge)
	} else {
		wantClean(t, p, page, page)
	}
}

// TestSafePages: a safe tree's page is clean already. (Of a text that no page
// has, as one with the byte 13, nothing is asked.)
func TestSafePages(t *testing.T) {
	for _, l := range [][]api.Node{
		nil, tree(txt("a")), tree(txt("<b>&amp;\u00a0\"'")), tree(txt("a"), elem("br"), txt("b")), tree(elem("p", txt("a"), elem("b", elem("i", txt("c"))))), tree(elem("ul", elem("li", txt("a")), elem("li", elem("ol", elem("li"))))), tree(link("https://x", txt("y"))),
		tree(elem("p", link("/x"), txt("a"), link("mailto:b"))), tree(elem("a", txt("y"))), tree(with(elem("img"), "src", "/x", "alt", "a \"b\"<>", "id", "", "class", "tag", "style", "color: red")), tree(with(elem("b"), "id", "&lt;\n\t")),
		tree(with(elem("a"), "id", "1", "href", "x", "class", "tag mention", "style", "color: red; text-align: left", "rel", nofol)), deepTree(64, "b", txt("a")), slices.Repeat(tree(elem("br")), 2000), slices.Repeat(tree(link("https://x"), txt("a")), 1000), tree(txt(strings.Repeat("<", 9999))),
	} {
		checkSafePage(t, full(), l)
	}
}

// TestStricterPages: what is clean by a stricter policy is safe by the other
// one, and each is clean by it.
func TestStricterPages(t *testing.T) {
	raw := `<p class="x tag mention" style="color:red;text-align:left">a<a href=https://x>y</a><a href=mailto:z>z</a><img src=/x alt=y><b cite=/x>c</b>`
	for _, do := range []func(p *api.Policy){
		func(p *api.Policy) { p.Elems, p.Attrs = []string{"a", "b"}, []string{"*.class", "a.href"} },
		func(p *api.Policy) { p.Attrs = []string{"*.class"} },
		func(p *api.Policy) { p.Schemes = p.Schemes[1:] },
		func(p *api.Policy) { p.Classes = p.Classes[:2] },
		func(p *api.Policy) { p.Props = p.Props[:1] },
		func(p *api.Policy) { p.Depth = 1 },
		func(p *api.Policy) { p.Nodes = 5 },
	} {
		p := change(full(), do)
		s := checkTheorem(t, p, raw)
		if !policy.Stricter(p, full()) || s == checkTheorem(t, full(), raw) {
			t.Errorf("%+v is not the stricter one: %q", p, s)
		}
		wantClean(t, full(), s, s)
	}
}

// TestLarge: long values, many nodes and deep ones, none of which takes long.
func TestLarge(t *testing.T) {
	const n = 1 << 17
	p := full()
	wantTree(t, p, slices.Repeat(tree(txt("ab"), elem("u", txt("cd"))), n), tree(txt(strings.Repeat("abcd", n))))
	wantTree(t, p, slices.Repeat(tree(elem("b", txt("a"))), n), slices.Repeat(tree(elem("b", txt("a"))), n))
	wantTree(t, p, deepTree(1000, "u", slices.Repeat(tree(elem("br")), n)...), slices.Repeat(tree(elem("br")), n))
	wantTree(t, p, deepTree(1000, "b", deepTree(0, "u", txt("a"))...), deepTree(1000, "b", txt("a")))
	wantAttrs(t, p, "b", []string{"class", strings.Repeat("tag mention ", n)}, []string{"class", "tag mention"})
	wantAttrs(t, p, "b", []string{"class", strings.Repeat(" ", n)}, nil)
	wantAttrs(t, p, "b", []string{"style", strings.Repeat("color: red;", n)}, []string{"style", "color: red"})
	wantAttrs(t, p, "a", []string{"href", strings.Repeat("x", n)}, []string{"href", strings.Repeat("x", n), "rel", nofol})
	var attrs, stay []string
	many := change(p, func(p *api.Policy) { p.Classes = nil })
	for i := range 2000 {
		many.Classes = append(many.Classes, "c"+strconv.Itoa(i))
		attrs = append(attrs, "c"+strconv.Itoa(i), "x", "id", strconv.Itoa(i))
		stay = append(stay, "id", strconv.Itoa(i))
	}
	all := strings.Join(many.Classes, " ")
	wantAttrs(t, many, "b", []string{"class", all + " x " + all}, []string{"class", all})
	wantAttrs(t, p, "b", attrs, stay)
}

// TestInputsStay: what is handed in is the same behind each call, and what a
// call answers does not hang on those made before.
func TestInputsStay(t *testing.T) {
	make1 := func() (api.Policy, []api.Node, []byte) {
		p := full()
		for _, list := range listsOf(&p) {
			*list = append(make([]string, 0, 80), *list...)
		}
		return p, append(make([]api.Node, 0, 8), with(elem("b", with(elem("a", txt("y"), elem("u", txt("z"))), "rel", "me", "href", "/x"), elem("svg")), "class", "tag tag", "style", "color:red", "x", "y"), txt("a"), txt("b")), append(make([]byte, 0, 99), "<b class='tag x'>a\r\n\xff<svg>"...)
	}
	p, l, raw := make1()
	wantP, wantL, wantRaw := make1()
	clean := tree(with(elem("b", link("/x", txt("yz"))), "class", "tag", "style", "color: red"), txt("ab"))
	for range 3 {
		wantTree(t, p, l, clean)
		wantTree(t, p, l[:1], clean[:1])
		wantTree(t, p, l[0].Kids, clean[0].Kids)
		wantTree(t, change(p, func(p *api.Policy) { p.Elems = nil }), l, tree(txt("yzab")))
		wantClean(t, p, string(raw), "<b class=\"tag\">a\n\uFFFD</b>")
		if s, e := Clean(p, raw); s != "<b class=\"tag\">a\n\uFFFD</b>" || e != api.OK {
			t.Error(s, e)
		}
		wantError(t, change(p, func(p *api.Policy) { p.Bytes = 1 }), string(raw), api.ErrLarge)
		wantError(t, change(p, func(p *api.Policy) { p.Epoch = 0 }), string(raw), api.ErrForm)
		if !Dropped("svg") || Dropped("b") {
			t.Error("which are dropped")
		}
	}
	if !reflect.DeepEqual(p, wantP) || !reflect.DeepEqual(l, wantL) || !reflect.DeepEqual(raw, wantRaw) {
		t.Errorf("what was handed in is changed: %+v, %+v, %q", p, l, raw)
	}
	for i, list := range listsOf(&p) {
		behind := (*list)[len(*list):cap(*list)]
		if slices.ContainsFunc(behind, func(s string) bool { return s != "" }) {
			t.Errorf("something was laid behind the list %d: %q", i, behind)
		}
	}
	for _, n := range l[:cap(l)][len(l):] {
		if !reflect.DeepEqual(n, api.Node{}) {
			t.Errorf("something was laid behind the tree: %+v", n)
		}
	}
	if behind := raw[len(raw):cap(raw)]; strings.Trim(string(behind), "\x00") != "" {
		t.Errorf("something was laid behind the page: %q", behind)
	}
}

// TestAnswersAreNew: nothing that is told shares a byte with what was handed
// in, nor one list's place with another.
func TestAnswersAreNew(t *testing.T) {
	var kept [][]byte
	text := func(s string) string {
		b := []byte(s)
		kept = append(kept, b)
		return unsafe.String(&b[0], len(b))
	}
	p := full()
	for _, list := range listsOf(&p) {
		for i, s := range *list {
			(*list)[i] = text(s)
		}
	}
	attrs := []api.Attr{{Name: text("id"), Value: text("x")}, {Name: text("class"), Value: text("tag")}, {Name: text("style"), Value: text("color: red")}, {Name: text("href"), Value: text("/x")}}
	l := tree(txt(text("a")), api.Node{Name: text("a"), Attrs: attrs, Kids: tree(txt(text("b")))}, txt(text("c")), elem(text("u"), txt(text("d"))), api.Node{Name: text("a"), Attrs: attrs})
	raw := []byte("<b id=x>a")
	got := Tree(p, l)
	page, _ := Clean(p, raw)
	plain, _ := Clean(p, raw[8:])
	for _, b := range append(kept, raw) {
		for i := range b {
			b[i] = 'z'
		}
	}
	attrs[0] = api.Attr{}
	l[1].Kids[0] = elem("z")
	clean := func(n api.Node) api.Node {
		return with(n, "id", "x", "class", "tag", "style", "color: red", "href", "/x", "rel", nofol)
	}
	want := tree(txt("a"), clean(elem("a", txt("b"))), txt("cd"), clean(elem("a")))
	if !same(got, want) || page != `<b id="x">a</b>` || plain != "a" {
		t.Errorf("what is told shares what was handed in: %+v, %q, %q", got, page, plain)
	}
	checkLists(t, got)
	p = full()
	checkLists(t, Tree(p, tree(elem("u", elem("b", elem("i"), elem("i"), elem("i")), elem("u", elem("b", elem("br"))), elem("b")), with(elem("b", elem("i", txt("a")), txt("b")), "id", "1", "class", "tag"), txt("c"))))
}

// checkLists writes into the room behind every list of a tree, and asks whether
// another one has what was written.
func checkLists(t *testing.T, l []api.Node) {
	t.Helper()
	before := ser.HTML(l)
	var fill func(l []api.Node)
	fill = func(l []api.Node) {
		for _, n := range l {
			fill(n.Kids)
			for i := range n.Attrs[len(n.Attrs):cap(n.Attrs)] {
				n.Attrs[:cap(n.Attrs)][len(n.Attrs)+i].Name = "added"
			}
		}
		for i := range l[len(l):cap(l)] {
			l[:cap(l)][len(l)+i] = elem("added")
		}
	}
	fill(l)
	if after := ser.HTML(l); after != before {
		t.Errorf("lists share their room: %q", after)
	}
}

// TestNilAndEmpty: of lists both are the same.
func TestNilAndEmpty(t *testing.T) {
	empty := func(p api.Policy) api.Policy {
		for _, list := range listsOf(&p) {
			if len(*list) == 0 {
				*list = []string{}
			}
		}
		return p
	}
	page := `a<b class="tag" style="color: red" id=x>b</b><a href=https:x>c</a><u><a href=/x></a></u>`
	built, _ := dom.Build(tok.Tokens(page))
	for i := range listsOf(&api.Policy{}) {
		p := change(full(), func(p *api.Policy) { *listsOf(p)[i] = nil })
		wantTree(t, empty(p), built, Tree(p, built))
		want, e := Clean(p, []byte(page))
		if got, other := Clean(empty(p), []byte(page)); got != want || e != other {
			t.Errorf("%q, %d, and %q, %d", want, e, got, other)
		}
	}
	wantTree(t, full(), []api.Node{{Name: "b", Attrs: []api.Attr{}, Kids: []api.Node{}}, {Text: "a", Attrs: []api.Attr{}, Kids: []api.Node{}}}, tree(elem("b"), txt("a")))
	wantTree(t, full(), []api.Node{}, nil)
	for _, raw := range [][]byte{nil, {}} {
		if s, e := Clean(full(), raw); s != "" || e != api.OK {
			t.Error(s, e)
		}
		if s, e := Clean(api.Policy{}, raw); s != "" || e != api.ErrForm {
			t.Error(s, e)
		}
	}
}
