package safe

import (
	"regexp"
	"slices"
	"strings"
	"testing"

	"verso/api"
	"verso/policy"
	"verso/ser"
	"verso/style"
	"verso/url"
)

// What follows is the chapter's sections Words and Promises: all that a value
// or a tree breaks is gathered, and it may stay if that is nothing. What is
// stable, and what a policy, a style or a place lets, is asked of the packages
// below, whose own tests hold them.

// model is the chapter's words, made once.
type model struct{ place *regexp.Regexp }

func newModel() *model {
	return &model{regexp.MustCompile(`\A(?:` + strings.ReplaceAll(places, " ", "|") + `)\z`)}
}

// breaks are texts of what does not hold.
type breaks []string

func (b *breaks) want(holds bool, what string) {
	if !holds {
		*b = append(*b, what)
	}
}

// inSome tells whether all of list are in another one.
func inSome(list, of []string) bool {
	return !slices.ContainsFunc(list, func(s string) bool { return !slices.Contains(of, s) })
}

func (m *model) value(p api.Policy, elem string, a api.Attr) breaks {
	var b breaks
	b.want(slices.Contains(p.Elems, elem), "the element")
	if a.Name == "rel" {
		b.want(elem == "a", "rel of another element than a")
		b.want(a.Value == "nofollow"+" "+"noopener", "another rel")
		return b
	}
	if a.Name == "style" {
		b.want(len(a.Value) > 0, "an empty style")
		b.want(a.Value == style.Filter(a.Value, p.Props), "a style that is filtered to another one")
		return b
	}
	b.want(policy.Attr(p, elem, a.Name), "the attribute")
	if a.Name == "class" {
		parts := strings.Split(a.Value, " ")
		b.want(len(a.Value) > 0, "an empty class")
		b.want(inSome(parts, p.Classes), "a class that is none")
		b.want(len(slices.Compact(slices.Sorted(slices.Values(parts)))) == len(parts), "a class twice")
	}
	if m.place.MatchString(a.Name) {
		b.want(url.Allowed(a.Value, p.Schemes...), "the place")
	}
	return b
}

// at is a node, and how many elements it stands within.
type at struct {
	n     api.Node
	depth int
}

func all(l []api.Node, depth int) []at {
	var out []at
	for _, n := range l {
		out = append(out, at{n, depth})
		within := depth
		if n.Name != "" {
			within++
		}
		out = append(out, all(n.Kids, within)...)
	}
	return out
}

func (m *model) safe(p api.Policy, l []api.Node) breaks {
	var b breaks
	nodes := all(l, 0)
	b.want(ser.Stable(l), "it is not stable")
	b.want(len(nodes) <= p.Nodes, "too many nodes")
	b.want(0 <= p.Depth, "a depth that none has")
	for _, one := range nodes {
		if one.n.Name == "" {
			continue
		}
		b.want(one.depth+1 <= p.Depth, "too deep")
		b.want(slices.Contains(p.Elems, one.n.Name), "an element")
		for _, a := range one.n.Attrs {
			b = append(b, m.value(p, one.n.Name, a)...)
		}
		if one.n.Name != "a" {
			continue
		}
		names := " "
		for _, a := range one.n.Attrs {
			names += a.Name + " "
		}
		b.want(strings.Contains(names, " href ") == strings.Contains(names, " rel "), "href or rel alone")
		b.want(!strings.Contains(names, " rel ") || strings.HasSuffix(names, " rel "), "a rel that is not the last")
	}
	return b
}

func (m *model) checkValue(t *testing.T, p api.Policy, elem string, a api.Attr) {
	t.Helper()
	broken := m.value(p, elem, a)
	if got := Value(p, elem, a); got != (len(broken) == 0) {
		t.Fatalf("Value(%+v, %q, %q) is %v: %q", p, elem, a, got, broken)
	}
	if got := Place(a.Name); got != m.place.MatchString(a.Name) {
		t.Fatalf("Place(%q) is %v", a.Name, got)
	}
}

// checkTree holds Safe at a tree against the chapter's words, by each of some
// policies, and asks the theorem of it.
func (m *model) checkTree(t *testing.T, f *family, l []api.Node) {
	t.Helper()
	safe := make([]bool, len(f.of))
	for i, p := range f.of {
		broken := m.safe(p, l)
		safe[i] = Safe(p, l)
		if safe[i] != (len(broken) == 0) {
			t.Fatalf("Safe(%+v, %+v) is %v: %q", p, l, safe[i], broken)
		}
		if safe[i] {
			checkWithin(t, p, l)
		}
	}
	for _, pair := range f.stricter {
		if safe[pair[0]] && !safe[pair[1]] {
			t.Fatalf("%+v is safe by %+v, and not by %+v", l, f.of[pair[0]], f.of[pair[1]])
		}
	}
}

// checkWithin asks that what stands within each element is safe alone.
func checkWithin(t *testing.T, p api.Policy, l []api.Node) {
	t.Helper()
	for _, n := range l {
		if !Safe(p, n.Kids) {
			t.Fatalf("what stands within %+v is not safe by %+v", n, p)
		}
		checkWithin(t, p, n.Kids)
	}
}

// family are policies, and pairs of their numbers: those of which the first one
// is the stricter one.
type family struct {
	of       []api.Policy
	stricter [][2]int
}

func newFamily(of ...api.Policy) *family {
	f := &family{of: of}
	for i, p := range of {
		for j, q := range of {
			if policy.Stricter(p, q) {
				f.stricter = append(f.stricter, [2]int{i, j})
			}
		}
	}
	return f
}

// around is a family of a policy, those with one thing less, and some that may
// not be.
func around(p api.Policy) *family {
	of := []api.Policy{p, {}, {Nodes: 2000, Depth: 64}}
	for i := range listsOf(&p) {
		list := *listsOf(&p)[i]
		for k := range list {
			of = append(of, change(p, func(p *api.Policy) { *listsOf(p)[i] = slices.Delete(slices.Clone(list), k, k+1) }))
		}
		of = append(of, change(p, func(p *api.Policy) { *listsOf(p)[i] = nil }))
		of = append(of, change(p, func(p *api.Policy) {
			*listsOf(p)[i] = append(slices.Clone(list), "", "*", "*.", "javascript", "script", "*.onclick", "a.rel", "*.style", "*.href")
		}))
	}
	for n := range 5 {
		of = append(of, change(p, func(p *api.Policy) { p.Nodes = n - 1 }), change(p, func(p *api.Policy) { p.Depth = n - 1 }))
	}
	return newFamily(of...)
}

// small is a policy of few things, each of which some tree below has.
func small() api.Policy {
	return api.Policy{Epoch: 1, Elems: []string{"a", "b", "br"}, Attrs: []string{"*.class", "a.href", "b.id"}, Schemes: []string{"x"}, Classes: []string{"c", "d"}, Props: []string{"f", "g"}, Depth: 64, Nodes: 2000, Bytes: 1}
}

// TestAllValues: all of some elements, names and values, by all policies around
// two.
func TestAllValues(t *testing.T) {
	m := newModel()
	elems := []string{"", "*", "a", "b", "br", "img", "script", "A", "li", "x.y", "a.b"}
	names := append(strings.Fields(places), "", "*", "id", "alt", "class", "rel", "style", "x", "ID", "HREF", "onclick", "srcdoc", "classes")
	values := []string{
		"", " ", "c", "d", "c d", "d c", "c c", "c  d", " c", "c ", "tag", "mention tag", "tag x", nofol, "nofollow", "noopener nofollow", "f: 1", "f:1", "g: 2; f: 1", "f: 1; f: 1", "f: 1; h: 2", "color: red", ";",
		"x:y", "X:y", "/x", "//x", "https://x", "http://x", "javascript:x", "java\tscript:x", "\\", "\x00", "\xff", "#", "mailto:x",
	}
	for _, f := range []*family{around(full()), around(small())} {
		for _, p := range f.of {
			for _, elem := range elems {
				for _, name := range names {
					for _, value := range values {
						m.checkValue(t, p, elem, api.Attr{Name: name, Value: value})
					}
				}
			}
		}
	}
}

// eachText tells all texts of at most so many of some parts.
func eachText(most int, of []string, tell func(string)) {
	var grow func(s string, more int)
	grow = func(s string, more int) {
		tell(s)
		if more == 0 {
			return
		}
		for _, part := range of {
			grow(s+part, more-1)
		}
	}
	grow("", most)
}

// TestAllShortValues: all short texts, as values of each kind.
func TestAllShortValues(t *testing.T) {
	m := newModel()
	p := small()
	empty := change(p, func(p *api.Policy) {
		p.Classes, p.Props, p.Schemes = []string{"", "c"}, []string{"", "f"}, []string{"", "f"}
	})
	for _, p := range []api.Policy{p, empty} {
		eachText(6, []string{" ", "c", "d", "\t"}, func(s string) { m.checkValue(t, p, "b", api.Attr{Name: "class", Value: s}) })
		eachText(5, []string{" ", "c", "d", "cd", "C", "\u00a0"}, func(s string) { m.checkValue(t, p, "a", api.Attr{Name: "class", Value: s}) })
		eachText(6, []string{"f", "g", ":", ": ", ";", "; ", "1"}, func(s string) { m.checkValue(t, p, "b", api.Attr{Name: "style", Value: s}) })
		eachText(6, []string{"x", ":", "/", " ", "\t", "f"}, func(s string) { m.checkValue(t, p, "a", api.Attr{Name: "href", Value: s}) })
		eachText(5, []string{"nofollow", "noopener", " ", "\n"}, func(s string) { m.checkValue(t, p, "a", api.Attr{Name: "rel", Value: s}) })
	}
}

// eachTree tells all trees of at most so many nodes, each of which is one of
// those, with all that fit within it.
func eachTree(most int, of []api.Node, tell func([]api.Node)) {
	var grow func(l []api.Node, left int, then func([]api.Node, int))
	grow = func(l []api.Node, left int, then func([]api.Node, int)) {
		then(l, left)
		if left == 0 {
			return
		}
		for _, n := range of {
			grow(nil, left-1, func(kids []api.Node, left int) {
				one := n
				one.Kids = kids
				grow(append(slices.Clone(l), one), left, then)
			})
		}
	}
	grow(nil, most, func(l []api.Node, _ int) { tell(l) })
}

func TestAllSmallTrees(t *testing.T) {
	m := newModel()
	f := around(small())
	ask := func(l []api.Node) { m.checkTree(t, f, l) }
	eachTree(2, tree(
		txt("t"), txt(""), elem("a"), elem("b"), elem("br"), elem("u"), elem("p"), elem("script"), link("x:y"), link("/x"), link("javascript:x"), with(elem("a"), "href", "/x"), with(elem("a"), "rel", nofol), with(elem("a"), "rel", nofol, "href", "/x"),
		with(elem("a"), "href", "/x", "class", "c", "rel", nofol), with(elem("a"), "href", "/x", "rel", nofol, "class", "c"), with(elem("b"), "class", "d c", "style", "g: 1; f: 2", "id", ""), with(elem("b"), "class", "c c"), with(elem("b"), "style", "f:1"), with(elem("b"), "rel", nofol),
		with(elem("br"), "class", "c"), with(elem("br"), "id", "c"), with(elem("b"), "onclick", "x"), with(elem("b"), "id", "1", "id", "1"), with(txt("t"), "class", "c"), api.Node{Name: "b", Text: "t"}, with(elem("script"), "class", "c"),
	), ask)
	eachTree(4, tree(txt("t"), elem("b"), elem("br"), link("x:y")), ask)
	eachTree(3, tree(txt("t"), elem("a"), elem("u"), with(elem("b"), "class", "c"), with(elem("a"), "href", "/x"), with(elem("b"), "style", "f: 1")), ask)
	eachTree(5, tree(txt("t"), elem("b")), ask)
}

// TestAllAttrLists: all lists of at most four of some attributes, of an a and
// of another element.
func TestAllAttrLists(t *testing.T) {
	m := newModel()
	p := small()
	lets := change(p, func(p *api.Policy) { p.Attrs = []string{"*.class", "*.href", "*.id", "*.rel"} })
	f := newFamily(p, lets, change(p, func(p *api.Policy) { p.Attrs = p.Attrs[:2] }), change(p, func(p *api.Policy) { p.Attrs = []string{"*.class", "*.href"} }))
	of := [][2]string{{"href", "/x"}, {"href", "y:"}, {"rel", nofol}, {"rel", ""}, {"class", "c"}, {"id", ""}, {"style", "f: 1"}}
	var grow func(l []string)
	grow = func(l []string) {
		for _, name := range []string{"a", "b"} {
			m.checkTree(t, f, tree(with(elem(name), l...)))
			m.checkTree(t, f, tree(elem("b", with(elem(name, txt("t")), l...)), txt("t")))
		}
		if len(l) == 8 {
			return
		}
		for _, a := range of {
			grow(append(slices.Clone(l), a[0], a[1]))
		}
	}
	grow(nil)
}

// TestAllFamilies: all policies of some lists and caps, each against each, at
// trees that just some of them let.
func TestAllFamilies(t *testing.T) {
	m := newModel()
	var of []api.Policy
	sub := [][]string{nil, {"c"}, {"d"}, {"c", "d"}}
	for _, classes := range sub {
		for _, props := range sub {
			for _, schemes := range sub {
				for _, attrs := range [][]string{{"*.class", "*.href"}, {"a.class", "a.href"}, {"*.class", "a.href"}, {"*.class", "a.class", "b.href"}} {
					of = append(of, api.Policy{Epoch: 1 + len(of), Elems: []string{"a", "b"}, Attrs: attrs, Schemes: schemes, Classes: classes, Props: props, Depth: 1 + len(of)%3, Nodes: 2 + len(of)%2, Bytes: 1})
				}
			}
		}
	}
	f := newFamily(of...)
	nodes := tree(txt("t"), elem("b"), link("c:x"), link("/x"), with(elem("b"), "class", "c"), with(elem("a"), "class", "d c"), with(elem("b"), "style", "d: 1"), with(elem("b"), "style", "c: 1; d: 1"), with(elem("b"), "href", "d:"))
	eachTree(2, nodes, func(l []api.Node) { m.checkTree(t, f, l) })
	eachTree(4, tree(txt("t"), elem("b")), func(l []api.Node) { m.checkTree(t, f, l) })
}

// TestAllAtTheLimits: trees as large as may be at all, where the policy lets
// as much, and a little less and more.
func TestAllAtTheLimits(t *testing.T) {
	m := newModel()
	var of []api.Policy
	for _, d := range []int{-1, 0, 1} {
		of = append(of, change(small(), func(p *api.Policy) { p.Depth += d }), change(small(), func(p *api.Policy) { p.Nodes += d }))
	}
	f := newFamily(of...)
	for _, n := range []int{62, 63, 64, 65} {
		for _, l := range [][]api.Node{nil, tree(txt("t")), tree(elem("br")), tree(txt("t"), link("x:y"))} {
			m.checkTree(t, f, deepTree(n, "b", l...))
		}
	}
	for _, n := range []int{1998, 1999, 2000, 2001} {
		m.checkTree(t, f, slices.Repeat(tree(elem("br")), n))
		m.checkTree(t, f, tree(elem("b", slices.Repeat(tree(elem("br")), n)...)))
	}
}

// treeOf is a tree as a text tells it, in parts with a `|` between: `<` and a
// name, `>` behind what stands within, `=` and the name and value of an
// attribute of the element that was opened last, any other one a text.
func treeOf(s string) []api.Node {
	open := make([]api.Node, 1)
	end := func() {
		n := open[len(open)-1]
		open = open[:len(open)-1]
		in := &open[len(open)-1]
		in.Kids = append(in.Kids, n)
	}
	for _, part := range strings.Split(s, "|") {
		last := &open[len(open)-1]
		switch {
		case part == "" || len(open) > 70:
		case part[0] == '<':
			open = append(open, elem(part[1:]))
		case part[0] == '=':
			name, value, _ := strings.Cut(part[1:], "=")
			last.Attrs = append(last.Attrs, api.Attr{Name: name, Value: value})
		case part != ">":
			last.Kids = append(last.Kids, txt(part))
		case len(open) > 1:
			end()
		}
	}
	for len(open) > 1 {
		end()
	}
	return open[0].Kids
}

// policyOf is one whose lists are those of a text's parts, in any order.
func policyOf(s string) api.Policy {
	p := api.Policy{Depth: len(s) % 70, Nodes: len(s)}
	for _, part := range strings.Split(s, "|") {
		if part == "" {
			continue
		}
		if i := strings.IndexByte("easCp", part[0]); i >= 0 {
			list := listsOf(&p)[i]
			*list = append(*list, part[1:])
		}
	}
	return p
}

// FuzzTexts asks of the tree and the policies that texts tell, and of the text
// as a value of each kind.
func FuzzTexts(f *testing.F) {
	for _, s := range []string{
		"", "<a|=href=x:y|=rel=nofollow noopener|t", "<b|=class=c d|t|<br|>|<a|>|t", "<b|=style=f: 1; g: 2|>|t", "<p|<b|<div", "t", "<a|=href=/x", "<a|=rel=nofollow noopener|=href=/x", "c c", "//x", "f: 1;", "<\xff|=\xff=\xff",
	} {
		f.Add(s, "eb|ea|ebr|a*.class|aa.href|ab.id|sx|Cc|Cd|pf|pg", "ea|eb|aa.class|Cc")
	}
	m := newModel()
	f.Fuzz(func(t *testing.T, s, one, other string) {
		p, q := policyOf(one), policyOf(other)
		m.checkTree(t, newFamily(p, q, small(), policyOf(one+"|"+other)), treeOf(s))
		for _, p := range []api.Policy{p, q, small(), full()} {
			for _, a := range []api.Attr{{Name: "class", Value: s}, {Name: "style", Value: s}, {Name: "href", Value: s}, {Name: "rel", Value: s}, {Name: "id", Value: s}, {Name: s, Value: one}, {Name: s, Value: nofol}} {
				m.checkValue(t, p, "a", a)
				m.checkValue(t, p, "b", a)
				m.checkValue(t, p, s, a)
			}
		}
	})
}
