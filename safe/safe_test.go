package safe

import (
	"math"
	"reflect"
	"slices"
	"strconv"
	"strings"
	"testing"

	"verso/api"
	"verso/dom"
	"verso/policy"
	"verso/ser"
	"verso/tok"
)

// The tests of ordinary inputs, and of the edges that the chapter names, say
// what they want one by one. Those in model_test.go hold the package against
// the chapter's words, at many trees and policies.

const (
	places = "href src cite action background longdesc ping poster srcset usemap"
	nofol  = "nofollow noopener"
)

// txt, elem, with and tree are what a tree is made of, as the tables write it.

func txt(s string) api.Node { return api.Node{Text: s} }

func elem(name string, kids ...api.Node) api.Node { return api.Node{Name: name, Kids: kids} }

// with is n with attributes: names and values, one behind the other.
func with(n api.Node, s ...string) api.Node {
	n.Attrs = nil
	for i := 0; i < len(s); i += 2 {
		n.Attrs = append(n.Attrs, api.Attr{Name: s[i], Value: s[i+1]})
	}
	return n
}

func tree(l ...api.Node) []api.Node { return l }

// link is an a that leads to a place, with what it must have.
func link(place string, kids ...api.Node) api.Node {
	return with(elem("a", kids...), "href", place, "rel", nofol)
}

// deepTree is a tree of one element within the other, and l in the innermost.
func deepTree(n int, name string, l ...api.Node) []api.Node {
	for range n {
		l = tree(elem(name, l...))
	}
	return l
}

// everywhere hands on trees in which n stands, at places of all kinds.
func everywhere(n api.Node) [][]api.Node {
	return [][]api.Node{
		tree(n), tree(txt("a"), n), tree(n, txt("a")), tree(elem("b"), n), tree(n, elem("b")), tree(elem("b", n)), tree(elem("b", elem("i", txt("a"), n)), elem("b")),
		tree(elem("b", elem("b", elem("b", elem("i"), n, elem("i"))))), tree(elem("b"), elem("br"), elem("i", n)),
	}
}

// full is a policy with all lists, and with all that trees may be.
func full() api.Policy {
	return api.Policy{
		Epoch: 1, Elems: []string{"a", "b", "br", "i", "img", "li", "ol", "p", "ul"}, Attrs: []string{"*.class", "*.id", "a.href", "b.cite", "img.alt", "img.src"},
		Schemes: []string{"https", "mailto"}, Classes: []string{"h-card", "mention", "tag"}, Props: []string{"color", "text-align"}, Depth: 64, Nodes: 2000, Bytes: 999,
	}
}

// change is a policy with something done to it.
func change(p api.Policy, do func(p *api.Policy)) api.Policy {
	do(&p)
	return p
}

// listsOf are the lists of a policy, for tests that ask all of them.
func listsOf(p *api.Policy) []*[]string {
	return []*[]string{&p.Elems, &p.Attrs, &p.Schemes, &p.Classes, &p.Props}
}

func wantValue(t *testing.T, p api.Policy, elem, name, value string, want bool) {
	t.Helper()
	if got := Value(p, elem, api.Attr{Name: name, Value: value}); got != want {
		t.Errorf("Value(%+v, %q, %q, %.100q) is %v", p, elem, name, value, got)
	}
}

func wantSafe(t *testing.T, p api.Policy, l []api.Node, want bool) {
	t.Helper()
	if got := Safe(p, l); got != want {
		t.Errorf("Safe(%+v, %.300s) is %v", p, ser.HTML(l), got)
	}
}

// wantPage asks of a page's tree.
func wantPage(t *testing.T, p api.Policy, page string, want bool) {
	t.Helper()
	l, e := dom.Build(tok.Tokens(page))
	if e != api.OK {
		t.Fatal(page, e)
	}
	wantSafe(t, p, l, want)
}

func TestExamples(t *testing.T) {
	p := api.Policy{Epoch: 1, Elems: []string{"a"}, Attrs: []string{"a.href"}, Schemes: []string{"https"}, Depth: 9, Nodes: 99, Bytes: 999}
	wantPage(t, p, `<a href="https://x" rel="nofollow noopener">y</a>`, true)
	wantPage(t, p, `<a href="https://x">y</a>`, false)
	p = api.Policy{Epoch: 1, Elems: []string{"p"}, Attrs: []string{"*.class"}, Classes: []string{"mention"}, Depth: 9, Nodes: 99, Bytes: 999}
	wantPage(t, p, `<p class="mention">`, true)
	// Those of the whole document.
	p = api.Policy{Epoch: 1, Elems: []string{"a"}, Attrs: []string{"a.href"}, Schemes: []string{"https"}, Depth: 9, Nodes: 99, Bytes: 999}
	wantPage(t, p, `<a href="java&#9;script:x">y</a>`, false)
	wantPage(t, p, `<a href="java&#9;script:x" rel="nofollow noopener">y</a>`, false)
	wantPage(t, p, `<a>y</a>`, true)
	wantPage(t, p, `<script>x</script>y`, false)
	wantPage(t, p, `y`, true)
}

func TestPlace(t *testing.T) {
	for _, name := range strings.Fields(places) {
		if !Place(name) {
			t.Errorf("%q is a place", name)
		}
		for _, other := range []string{name + "s", name + " ", " " + name, name + "\x00", strings.ToUpper(name), strings.ToUpper(name[:1]) + name[1:], name[1:], name[:len(name)-1], "data-" + name, "xlink:" + name, name + name, "*." + name, "a." + name} {
			if Place(other) {
				t.Errorf("%q is no place", other)
			}
		}
	}
	for _, name := range []string{"", " ", "a", "id", "class", "rel", "style", "title", "alt", "name", "data", "formaction", "srcdoc", "dynsrc", "lowsrc", "manifest", "codebase", "profile", "icon", "\xff", "href src", places} {
		if Place(name) {
			t.Errorf("%q is no place", name)
		}
	}
}

// TestValueElem: of an element that may not stay, nothing may.
func TestValueElem(t *testing.T) {
	p := full()
	p.Attrs = append(p.Attrs, "*.x", "u.x", "u.href", ".x", "script.x", "A.x", "A.href", "*.*")
	for _, a := range []api.Attr{{Name: "rel", Value: nofol}, {Name: "style", Value: "color: red"}, {Name: "class", Value: "tag"}, {Name: "href", Value: "/x"}, {Name: "id", Value: "y"}, {Name: "x"}} {
		for _, elem := range []string{"", "u", "script", "A", "B", "a ", " a", "*", "aa", "a.b", "br/", "\xff"} {
			wantValue(t, p, elem, a.Name, a.Value, false)
		}
		for _, elem := range p.Elems {
			want := (a.Name != "rel" && a.Name != "href") || elem == "a"
			wantValue(t, p, elem, a.Name, a.Value, want)
			wantValue(t, change(p, func(p *api.Policy) { p.Elems = nil }), elem, a.Name, a.Value, false)
			wantValue(t, api.Policy{}, elem, a.Name, a.Value, false)
		}
	}
}

func TestValueRel(t *testing.T) {
	letsRel := change(full(), func(p *api.Policy) { p.Attrs = []string{"*.rel", "a.rel", "b.rel"} })
	letsNone := change(full(), func(p *api.Policy) { p.Attrs = nil })
	for _, p := range []api.Policy{full(), letsRel, letsNone} {
		wantValue(t, p, "a", "rel", nofol, true)
		for _, name := range p.Elems[1:] {
			wantValue(t, p, name, "rel", nofol, false)
			wantValue(t, p, name, "rel", "", false)
		}
		for _, v := range []string{
			"", " ", "nofollow", "noopener", "noopener nofollow", "nofollow  noopener", "nofollow\tnoopener", "nofollow\nnoopener", " nofollow noopener", "nofollow noopener ", "Nofollow noopener", "NOFOLLOW NOOPENER",
			"nofollow noopener noreferrer", "nofollownoopener", "nofollow,noopener", "opener", "nofollow noopener\x00", "nofollow nofollow", "https", "tag",
		} {
			wantValue(t, p, "a", "rel", v, false)
		}
	}
	// A policy without a has none.
	wantValue(t, change(letsRel, func(p *api.Policy) { p.Elems = []string{"b"} }), "a", "rel", nofol, false)
	// Another name is not the one.
	for _, name := range []string{"REL", "Rel", "rel ", "rev", ""} {
		wantValue(t, full(), "a", name, nofol, false)
	}
}

func TestValueStyle(t *testing.T) {
	letsStyle := change(full(), func(p *api.Policy) { p.Attrs = []string{"*.style", "b.style"} })
	letsNone := change(full(), func(p *api.Policy) { p.Attrs = nil })
	for _, p := range []api.Policy{full(), letsStyle, letsNone} {
		for _, elem := range p.Elems {
			for _, v := range []string{"color: red", "text-align: left", "color: red; text-align: left", "text-align: left; color: #f00", "color: 1px 2px", "color: a,b.%-", "color: " + strings.Repeat("x", 100)} {
				wantValue(t, p, elem, "style", v, true)
				wantValue(t, change(p, func(p *api.Policy) { p.Props = nil }), elem, "style", v, false)
				wantValue(t, change(p, func(p *api.Policy) { p.Props = p.Classes }), elem, "style", v, false)
			}
			for _, v := range []string{
				"", " ", ";", ":", "color", "color:", "color: ", "color:red", "color : red", "color:  red", " color: red", "color: red ", "color: red;", ";color: red", "color: red;text-align: left", "color: red;  text-align: left",
				"color: RED", "Color: red", "color: red; color: red", "color: red; color: blue", "color: red; width: 1px", "width: 1px", "color: url(x)", "color: a/b", "color: \"x\"", "color: <b>", "color: red\n", "color: red; x", "color: red; ",
				"color: " + strings.Repeat("x", 101), "color: red\x00", "color: é", "color: expression(x)", "color: a\\b",
			} {
				wantValue(t, p, elem, "style", v, false)
			}
		}
	}
	// One prop alone lets no other one.
	color := change(full(), func(p *api.Policy) { p.Props = []string{"color"} })
	wantValue(t, color, "b", "style", "color: red", true)
	wantValue(t, color, "b", "style", "color: red; text-align: left", false)
	wantValue(t, color, "b", "style", "text-align: left", false)
	// An empty value is what Filter leaves of it, but is none that may stay.
	wantValue(t, change(full(), func(p *api.Policy) { p.Props = []string{""} }), "b", "style", "", false)
	wantValue(t, full(), "b", "STYLE", "color: red", false)
}

func TestValueClass(t *testing.T) {
	p := full()
	for _, elem := range p.Elems {
		for _, v := range []string{"tag", "mention", "h-card", "tag mention", "mention tag", "mention tag h-card", "h-card mention tag", "tag h-card"} {
			wantValue(t, p, elem, "class", v, true)
			wantValue(t, change(p, func(p *api.Policy) { p.Classes = nil }), elem, "class", v, false)
			wantValue(t, change(p, func(p *api.Policy) { p.Attrs = []string{"*.id", "a.href"} }), elem, "class", v, false)
			wantValue(t, change(p, func(p *api.Policy) { p.Attrs = []string{elem + ".class"} }), elem, "class", v, true)
			wantValue(t, change(p, func(p *api.Policy) { p.Attrs = []string{elem + "x.class", "class", ".class", elem + ".classes"} }), elem, "class", v, false)
		}
		for _, v := range []string{
			"", " ", "  ", "x", "Tag", "TAG", "tag x", "x tag", "tag tag", "tag mention tag", "mention tag tag", "tag  mention", " tag", "tag ", " tag ", "tag mention ", "tag\tmention", "tag\nmention", "tag,mention", "tagmention", "ta", "tags",
			"h card", "h-card mention tag x", "h-card mention tag h-card", "tag\x00", "tag\u00a0mention", "\xff", "tag\f", "https", "color",
		} {
			wantValue(t, p, elem, "class", v, false)
		}
	}
	// An empty part is one as others: some policy that may not be has it.
	empty := change(p, func(p *api.Policy) { p.Classes = []string{"", "tag", "x", "tag mention"} })
	for v, want := range map[string]bool{"": false, " ": false, "tag": true, "tag ": true, " tag": true, "tag  x": true, " tag ": false, "  tag": false, "tag mention": false, "x tag": true} {
		wantValue(t, empty, "b", "class", v, want)
	}
	// Classes that stand in the list twice, or in another order.
	odd := change(p, func(p *api.Policy) { p.Classes = []string{"z", "c", "c", "a"} })
	for v, want := range map[string]bool{"c": true, "c c": false, "a z": true, "z c a": true, "b": false} {
		wantValue(t, odd, "b", "class", v, want)
	}
	// Another name's value is not parted.
	wantValue(t, p, "b", "id", "x  x", true)
	wantValue(t, change(p, func(p *api.Policy) { p.Attrs = []string{"*.CLASS"} }), "b", "CLASS", "x x", true)
}

// TestValuePlaces: each name of places, with values that are allowed and not.
func TestValuePlaces(t *testing.T) {
	good := []string{"", "/x", "x", "?a=b:c", "#x", "https:x", "https://x", "HTTPS://x", " https://x", "ht\ttps:x", "mailto:a@b", "./a:b", "a b", "/a:b", "1:x", "x&\"<>"}
	bad := []string{"//x", "http://x", "javascript:x", "JavaScript:x", " java\tscript:x", "data:x", "\x01javascript:x", "/\\x", "\\x", "a\x00b", "a\x7f", "\n//x", "/\n/x", "httpss:x", "https+a:x", "x:", "vbscript:x"}
	for _, name := range strings.Fields(places) {
		for _, attr := range []string{"*." + name, "b." + name} {
			p := change(full(), func(p *api.Policy) { p.Attrs = []string{attr} })
			for _, v := range good {
				wantValue(t, p, "b", name, v, true)
				wantValue(t, p, "i", name, v, attr[0] == '*')
				wantValue(t, change(p, func(p *api.Policy) { p.Attrs = []string{"*.x", "a." + name, name, "b"} }), "b", name, v, false)
			}
			for _, v := range bad {
				wantValue(t, p, "b", name, v, false)
			}
			none := change(p, func(p *api.Policy) { p.Schemes = nil })
			wantValue(t, none, "b", name, "/x", true)
			wantValue(t, none, "b", name, "https:x", false)
			// What p is is not asked.
			wantValue(t, change(p, func(p *api.Policy) { p.Schemes = []string{"x", "javascript"} }), "b", name, "javascript:x", true)
		}
	}
}

// TestValueOthers: any value of another name, if the policy lets the name.
func TestValueOthers(t *testing.T) {
	p := full()
	for _, v := range []string{"", "x", "x x", " ", "javascript:x", "//x", "\xff\x00", "\"<>&", "color:RED", nofol, strings.Repeat("x", 100000)} {
		for _, elem := range p.Elems {
			wantValue(t, p, elem, "id", v, true)
			wantValue(t, p, elem, "alt", v, elem == "img")
			for _, name := range []string{"", "x", "ID", "id ", "onclick", "title", "*.id", "img.alt", "*", "formaction"} {
				wantValue(t, p, elem, name, v, false)
			}
		}
	}
	// What p is is not asked: names that never may be are as others.
	odd := change(p, func(p *api.Policy) {
		p.Elems = []string{"script", "", "x.y"}
		p.Attrs = []string{"*.onclick", "script.srcdoc", "*.", "x.y.z", "*.HREF"}
	})
	wantValue(t, odd, "script", "onclick", "x", true)
	wantValue(t, odd, "script", "srcdoc", "<b>", true)
	wantValue(t, odd, "", "srcdoc", "<b>", false)
	wantValue(t, odd, "", "onclick", "x", true)
	wantValue(t, odd, "", "", "x", true)
	wantValue(t, odd, "x.y", "z", "x", true)
	wantValue(t, odd, "x.y", "HREF", "javascript:x", true)
}

func TestSafe(t *testing.T) {
	p := full()
	for _, l := range [][]api.Node{
		nil, {}, tree(txt("a")), tree(elem("b")), tree(txt("<b>")), tree(txt("a"), elem("br"), txt("b")), tree(elem("p", txt("a"), elem("b", elem("i", txt("c"))))), tree(elem("ul", elem("li", txt("a")), elem("li", elem("ol", elem("li"))))),
		tree(link("https://x", txt("y"))), tree(elem("p", link("/x"), txt("a"), link("mailto:b"))), tree(elem("a", txt("y"))), tree(with(elem("img"), "src", "/x", "alt", "a b", "id", "", "class", "tag", "style", "color: red")),
		tree(with(elem("a"), "id", "1", "href", "x", "class", "tag mention", "style", "color: red; text-align: left", "rel", nofol)), tree(with(elem("a"), "id", "x", "class", "tag")), tree(with(elem("b"), "cite", "/x")),
		{{Name: "b", Attrs: []api.Attr{}, Kids: []api.Node{}}, {Text: "a", Attrs: []api.Attr{}, Kids: []api.Node{}}},
	} {
		wantSafe(t, p, l, true)
		for _, n := range l {
			for _, all := range everywhere(n) {
				if ser.Stable(all) {
					wantSafe(t, p, all, true)
				}
			}
		}
	}
}

// TestSafeStable: what is not read as it was may not be shown, whatever the
// policy lets.
func TestSafeStable(t *testing.T) {
	p := change(full(), func(p *api.Policy) {
		p.Elems = append(p.Elems, "script", "title", "B", "", "div", "x.y", "1")
		p.Attrs = append(p.Attrs, "*.ID", "*.", "*.x", "*.x y", "*.1")
		p.Depth, p.Nodes = math.MaxInt, math.MaxInt
	})
	for _, l := range [][]api.Node{
		tree(txt("")), tree(txt("a"), txt("b")), tree(api.Node{}), tree(with(txt("a"), "id", "x")), tree(api.Node{Text: "a", Kids: tree(elem("b"))}), tree(api.Node{Kids: tree(elem("b"))}), tree(api.Node{Name: "b", Text: "a"}),
		tree(elem("br", txt("a"))), tree(elem("img", elem("b"))), tree(elem("script")), tree(elem("title", txt("a"))), tree(elem("B")), tree(elem("x.y")), tree(elem("1")), tree(elem("p", elem("p"))), tree(elem("p", elem("b", elem("div")))),
		tree(elem("li", elem("li"))), tree(elem("ul", elem("li", elem("b", elem("li"))))), tree(with(elem("b"), "x", "1", "x", "1")), tree(with(elem("b"), "ID", "x")), tree(with(elem("b"), "", "")), tree(with(elem("b"), "x y", "")), tree(with(elem("b"), "1", "")),
		tree(with(elem("a"), "href", "/x", "href", "/x", "rel", nofol)), tree(with(elem("a"), "href", "/x", "rel", nofol, "rel", nofol)), deepTree(65, "b"), slices.Repeat(tree(elem("br")), 2001), deepTree(1000, "b"),
	} {
		wantSafe(t, p, l, false)
		wantSafe(t, p, tree(elem("b", l...), elem("b")), false)
	}
	wantSafe(t, p, tree(with(elem("b"), "x", "1"), elem("div", elem("p", txt("a")))), true)
	wantSafe(t, p, deepTree(64, "b"), true)
	wantSafe(t, p, slices.Repeat(tree(elem("br")), 2000), true)
}

// TestSafeSize: a tree may have just as many nodes, and be just as deep, as the
// policy lets.
func TestSafeSize(t *testing.T) {
	trees := [][]api.Node{nil, tree(txt("a")), tree(elem("b")), tree(elem("b", txt("a"))), tree(elem("b", elem("br"))), tree(elem("b"), elem("b", elem("i", elem("b", txt("a"))), elem("i"))), tree(txt("a"), elem("br"), txt("a"), elem("b", txt("a"))), deepTree(64, "b"), deepTree(64, "b", txt("a")), slices.Repeat(tree(elem("br")), 2000)}
	for i, size := range [][2]int{{0, 0}, {1, 0}, {1, 1}, {2, 1}, {2, 2}, {6, 3}, {5, 1}, {64, 64}, {65, 64}, {2000, 1}} {
		for nodes := size[0] - 2; nodes <= size[0]+2; nodes++ {
			for deep := size[1] - 2; deep <= size[1]+2; deep++ {
				p := change(full(), func(p *api.Policy) { p.Nodes, p.Depth = nodes, deep })
				wantSafe(t, p, trees[i], nodes >= size[0] && deep >= size[1])
			}
		}
		p := change(full(), func(p *api.Policy) { p.Nodes, p.Depth = math.MaxInt, math.MaxInt })
		wantSafe(t, p, trees[i], true)
		p.Nodes = math.MinInt
		wantSafe(t, p, trees[i], false)
		p.Nodes, p.Depth = math.MaxInt, math.MinInt
		wantSafe(t, p, trees[i], false)
	}
	// A policy's other numbers do not count.
	for _, n := range []int{math.MinInt, 0, 1, math.MaxInt} {
		wantSafe(t, change(full(), func(p *api.Policy) { p.Epoch, p.Bytes = n, n }), tree(elem("b", txt("abc"))), true)
	}
}

func TestSafeElems(t *testing.T) {
	p := full()
	for _, name := range []string{"u", "div", "svg", "form", "object", "template", "input", "ab", "a-", "h1"} {
		for _, l := range everywhere(elem(name)) {
			wantSafe(t, p, l, false)
			wantSafe(t, change(p, func(p *api.Policy) { p.Elems = append([]string{name}, p.Elems...) }), l, true)
		}
	}
	for _, l := range everywhere(elem("img")) {
		wantSafe(t, p, l, true)
		wantSafe(t, change(p, func(p *api.Policy) { p.Elems = []string{"b", "br", "i"} }), l, false)
	}
	// Of the zero policy nothing is safe but no tree at all.
	wantSafe(t, api.Policy{}, nil, true)
	wantSafe(t, api.Policy{}, tree(), true)
	wantSafe(t, api.Policy{}, tree(txt("a")), false)
	wantSafe(t, api.Policy{Nodes: 1}, tree(txt("a")), true)
	wantSafe(t, api.Policy{Nodes: 9, Depth: 9}, tree(elem("b")), false)
}

// TestSafeAttrs: each attribute of each element is asked.
func TestSafeAttrs(t *testing.T) {
	p := full()
	for _, bad := range []api.Attr{
		{Name: "onclick", Value: "x"}, {Name: "x"}, {Name: "style", Value: "color:red"}, {Name: "style"}, {Name: "class", Value: "x"}, {Name: "class"}, {Name: "cite", Value: "javascript:x"}, {Name: "src", Value: "/x"}, {Name: "rel", Value: nofol}, {Name: "rel"}, {Name: "href", Value: "/x"},
	} {
		good := api.Attr{Name: "id", Value: "x"}
		for _, l := range [][]api.Attr{{bad}, {good, bad}, {bad, good}} {
			for _, all := range everywhere(api.Node{Name: "b", Attrs: l}) {
				wantSafe(t, p, all, false)
			}
		}
		for _, all := range everywhere(api.Node{Name: "b", Attrs: []api.Attr{good}}) {
			wantSafe(t, p, all, true)
		}
	}
}

// TestSafeLinks: an a has its rel at the end, if it has an href, and none else.
func TestSafeLinks(t *testing.T) {
	p := change(full(), func(p *api.Policy) { p.Attrs = append(p.Attrs, "*.rel", "*.href") })
	for _, q := range []api.Policy{full(), p} {
		for _, c := range []struct {
			attrs []string
			want  bool
		}{
			{nil, true},
			{[]string{"href", "/x"}, false},
			{[]string{"rel", nofol}, false},
			{[]string{"href", "/x", "rel", nofol}, true},
			{[]string{"rel", nofol, "href", "/x"}, false},
			{[]string{"href", "", "rel", nofol}, true},
			{[]string{"href", "/x", "id", "y", "rel", nofol}, true},
			{[]string{"id", "y", "href", "/x", "rel", nofol}, true},
			{[]string{"href", "/x", "rel", nofol, "id", "y"}, false},
			{[]string{"rel", nofol, "href", "/x", "id", "y"}, false},
			{[]string{"rel", nofol, "id", "y", "href", "/x"}, false},
			{[]string{"id", "y", "href", "/x"}, false},
			{[]string{"href", "/x", "id", "y"}, false},
			{[]string{"id", "y"}, true},
			{[]string{"id", "y", "rel", nofol}, false},
			{[]string{"rel", nofol, "id", "y"}, false},
			{[]string{"href", "/x", "rel", ""}, false},
			{[]string{"href", "/x", "rel", "nofollow"}, false},
			{[]string{"href", "/x", "rel", "noopener nofollow"}, false},
			{[]string{"href", "http:x", "rel", nofol}, false},
			{[]string{"href", "//x", "rel", nofol}, false},
		} {
			for _, l := range everywhere(with(elem("a"), c.attrs...)) {
				wantSafe(t, q, l, c.want)
			}
			for _, l := range everywhere(with(elem("a", elem("i", txt("y"))), c.attrs...)) {
				wantSafe(t, q, l, c.want)
			}
			wantSafe(t, q, tree(link("/x", with(elem("a"), c.attrs...))), c.want)
			wantSafe(t, q, tree(link("/x"), with(elem("a"), c.attrs...), elem("a")), c.want)
		}
	}
	// Others need none, and may have none.
	for _, l := range everywhere(with(elem("b"), "href", "/x")) {
		wantSafe(t, p, l, true)
	}
	for _, l := range everywhere(with(elem("b"), "href", "/x", "rel", nofol)) {
		wantSafe(t, p, l, false)
	}
	// Without the href's name in the policy an a with one is not safe at all.
	for _, l := range everywhere(link("/x")) {
		wantSafe(t, p, l, true)
		wantSafe(t, change(full(), func(p *api.Policy) { p.Attrs = []string{"*.id"} }), l, false)
	}
}

// TestStricter: what is safe by a stricter policy is by the other one, and not
// always the other way about.
func TestStricter(t *testing.T) {
	l := tree(elem("p", txt("a"), link("https://x", txt("y")), with(elem("img"), "src", "/x", "alt", "z")), with(elem("b", txt("c")), "class", "tag mention", "style", "color: red; text-align: left", "id", "1"))
	wantSafe(t, full(), l, true)
	nodes, deep := dom.Size(l)
	for _, do := range []func(p *api.Policy){
		func(p *api.Policy) { p.Elems = []string{"a", "b", "br", "i", "li", "ol", "p", "ul"} },
		func(p *api.Policy) { p.Attrs = p.Attrs[1:] },
		func(p *api.Policy) { p.Attrs = []string{"*.class", "*.id", "b.cite", "img.alt", "img.src"} },
		func(p *api.Policy) { p.Schemes = p.Schemes[1:] },
		func(p *api.Policy) { p.Classes = p.Classes[:2] },
		func(p *api.Policy) { p.Props = p.Props[:1] },
		func(p *api.Policy) { p.Depth = deep - 1 },
		func(p *api.Policy) { p.Nodes = nodes - 1 },
	} {
		p := change(full(), do)
		if !policy.Stricter(p, full()) || policy.Stricter(full(), p) {
			t.Errorf("%+v is not the stricter one", p)
		}
		wantSafe(t, p, l, false)
	}
	// An attribute of all elements lets that of one.
	one := change(full(), func(p *api.Policy) { p.Attrs = []string{"a.href", "b.class", "b.id", "img.alt", "img.src"} })
	all := change(full(), func(p *api.Policy) { p.Attrs = []string{"*.alt", "*.class", "*.href", "*.id", "*.src"} })
	for _, p := range []api.Policy{one, all, change(one, func(p *api.Policy) { p.Depth, p.Nodes = deep, nodes })} {
		wantSafe(t, p, l, true)
	}
	if !policy.Stricter(one, all) {
		t.Error("attributes of one element")
	}
}

// TestLarge: long values, lists and trees, none of which takes long.
func TestLarge(t *testing.T) {
	const n = 1 << 17
	p := full()
	for _, v := range []string{strings.Repeat(" ", n), strings.Repeat("tag ", n), strings.Repeat("x", n)} {
		wantValue(t, p, "b", "class", v, false)
		wantValue(t, p, "b", "style", v, false)
		wantValue(t, p, "a", "rel", v, false)
		wantValue(t, p, "a", "href", v, true)
		wantValue(t, p, "b", "id", v, true)
	}
	wantValue(t, p, "b", "style", strings.Repeat("color: red; ", n)+"color: red", false)
	wantValue(t, p, "a", "href", strings.Repeat("a", n)+":x", false)
	many := change(p, func(p *api.Policy) { p.Classes = nil })
	for i := range 2000 {
		many.Classes = append(many.Classes, "c"+strconv.Itoa(i))
	}
	wantValue(t, many, "b", "class", strings.Join(many.Classes, " "), true)
	wantValue(t, many, "b", "class", strings.Join(many.Classes, " ")+" c1", false)
	wantSafe(t, p, deepTree(1000, "b", txt("a")), false)
	wantSafe(t, p, slices.Repeat(tree(elem("b", txt("a"))), n), false)
	wantSafe(t, p, slices.Repeat(tree(link("https://x", txt(strings.Repeat("y", 100)))), 1000), true)
	wantSafe(t, p, append(slices.Repeat(tree(link("https://x")), 1999), elem("u")), false)
	attrs := elem("b")
	names := change(p, func(p *api.Policy) { p.Attrs = nil })
	for i := range 1000 {
		attrs.Attrs = append(attrs.Attrs, api.Attr{Name: "c" + strconv.Itoa(i)})
		names.Attrs = append(names.Attrs, "*.c"+strconv.Itoa(i))
	}
	wantSafe(t, names, tree(attrs), true)
	wantSafe(t, change(names, func(p *api.Policy) { p.Attrs = p.Attrs[:999] }), tree(attrs), false)
}

// TestInputsStay: what is handed in is the same behind each call, and what a
// call answers does not hang on those made before.
func TestInputsStay(t *testing.T) {
	make1 := func() (api.Policy, []api.Node) {
		p := full()
		for _, list := range listsOf(&p) {
			*list = append(make([]string, 0, 80), *list...)
		}
		return p, append(make([]api.Node, 0, 8), with(elem("b", link("https://x", txt("y")), elem("br")), "class", "tag mention", "style", "color: red"), txt("a"))
	}
	p, l := make1()
	wantP, wantL := make1()
	for range 3 {
		wantSafe(t, p, l, true)
		wantSafe(t, p, l[:1], true)
		wantSafe(t, p, append(l, txt("b")), false)
		wantValue(t, p, "b", "class", "tag mention", true)
		wantValue(t, p, "b", "class", "mention", true)
		wantValue(t, p, "b", "style", "color:red", false)
		wantValue(t, p, "a", "href", "HTTPS:x", true)
		wantValue(t, p, "a", "href", "http:x", false)
		if !Place("href") || Place("x") {
			t.Error("which are places")
		}
	}
	if !reflect.DeepEqual(p, wantP) || !reflect.DeepEqual(l, wantL) {
		t.Errorf("what was handed in is changed: %+v, %+v", p, l)
	}
	for i, list := range listsOf(&p) {
		behind := (*list)[len(*list):cap(*list)]
		if slices.ContainsFunc(behind, func(s string) bool { return s != "" }) {
			t.Errorf("something was laid behind the list %d: %q", i, behind)
		}
	}
}

// TestNilAndEmpty: of lists both are the same.
func TestNilAndEmpty(t *testing.T) {
	empty := func(p api.Policy) api.Policy {
		for _, list := range listsOf(&p) {
			if len(*list) == 0 {
				*list = []string{}
			}
		}
		return p
	}
	for i := range listsOf(&api.Policy{}) {
		p := change(full(), func(p *api.Policy) { *listsOf(p)[i] = nil })
		for _, l := range [][]api.Node{nil, {}, tree(txt("a")), tree(elem("b")), tree(link("/x")), tree(link("https:x")), tree(with(elem("b"), "class", "tag")), tree(with(elem("b"), "style", "color: red")), tree(with(elem("b"), "id", ""))} {
			wantSafe(t, empty(p), l, Safe(p, l))
			for _, n := range l {
				for _, a := range n.Attrs {
					wantValue(t, empty(p), n.Name, a.Name, a.Value, Value(p, n.Name, a))
				}
			}
		}
	}
}
