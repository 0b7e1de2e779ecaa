package san

import (
	"regexp"
	"slices"
	"strings"
	"testing"

	"verso/api"
	"verso/dom"
	"verso/policy"
	"verso/refs"
	"verso/safe"
	"verso/ser"
	"verso/style"
	"verso/tok"
	"verso/utf"
)

// What follows is the chapter's sections Words and Promises, sentence by
// sentence, in several passes over a tree, where the package makes one. What
// the packages below tell is asked of them; their own tests hold them.

// model is the chapter's words, made once.
type model struct{ dropped *regexp.Regexp }

func newModel() *model {
	return &model{regexp.MustCompile(`\A(?:` + strings.ReplaceAll(dropped, " ", "|") + `)\z`)}
}

// tree is that of P11.2.
func (m *model) tree(p api.Policy, l []api.Node) []api.Node {
	return joined(m.parts(p, l))
}

// parts are the nodes that stay, ahead of the texts' being made one.
func (m *model) parts(p api.Policy, l []api.Node) []api.Node {
	var out []api.Node
	for _, n := range l {
		isText := n.Name == ""
		isDropped := !isText && m.dropped.MatchString(n.Name)
		stays := !isText && !isDropped && slices.Contains(p.Elems, n.Name)
		if isText {
			out = append(out, txt(n.Text))
		}
		if stays {
			out = append(out, api.Node{Name: n.Name, Attrs: m.attrs(p, n.Name, n.Attrs), Kids: m.tree(p, n.Kids)})
		}
		if !isText && !isDropped && !stays {
			out = append(out, m.parts(p, n.Kids)...)
		}
	}
	return out
}

// joined is a list in which texts that stand side by side are one, and none is
// empty.
func joined(l []api.Node) []api.Node {
	for i := 1; i < len(l); {
		if l[i-1].Name == "" && l[i].Name == "" {
			l[i-1].Text += l[i].Text
			l = slices.Delete(l, i, i+1)
		} else {
			i++
		}
	}
	return slices.DeleteFunc(l, func(n api.Node) bool { return n.Name == "" && n.Text == "" })
}

// attrs are those of P11.3.
func (m *model) attrs(p api.Policy, elem string, l []api.Attr) []api.Attr {
	var out []api.Attr
	keep := func(name, value string, stays bool) {
		if stays {
			out = append(out, api.Attr{Name: name, Value: value})
		}
	}
	for _, a := range l {
		special := a.Name == "rel" || a.Name == "style" || a.Name == "class"
		if a.Name == "style" {
			filtered := style.Filter(a.Value, p.Props)
			keep("style", filtered, len(filtered) > 0)
		}
		if a.Name == "class" {
			parts := strings.Split(a.Value, " ")
			var some []string
			for i, part := range parts {
				if slices.Contains(p.Classes, part) && !slices.Contains(parts[:i], part) {
					some = append(some, part)
				}
			}
			keep("class", strings.Join(some, " "), len(some) > 0 && policy.Attr(p, elem, "class"))
		}
		keep(a.Name, a.Value, !special && safe.Value(p, elem, a))
	}
	has := slices.ContainsFunc(out, func(a api.Attr) bool { return a.Name == "href" })
	keep("rel", "nofollow"+" "+"noopener", elem == "a" && has)
	return out
}

// clean is that of P11.4.
func (m *model) clean(p api.Policy, raw []byte) (string, api.Errno) {
	if !policy.Right(p) {
		return "", api.ErrForm
	}
	if len(raw) > p.Bytes {
		return "", api.ErrLarge
	}
	s := utf.Fix(raw)
	text := refs.Escape(s, false)
	built, e := dom.Build(tok.Tokens(s))
	if e != api.OK {
		return text, api.OK
	}
	l := m.tree(p, built)
	if nodes, deep := dom.Size(l); nodes <= p.Nodes && deep <= p.Depth {
		return ser.HTML(l), api.OK
	}
	return text, api.OK
}

// undropped is a tree's text but that within what is dropped.
func (m *model) undropped(l []api.Node) string {
	var out string
	for _, n := range l {
		if n.Name == "" {
			out += n.Text
		} else if !m.dropped.MatchString(n.Name) {
			out += m.undropped(n.Kids)
		}
	}
	return out
}

// family are policies, and pairs of their numbers: those of which the first one
// is the stricter one.
type family struct {
	of       []api.Policy
	stricter [][2]int
}

func newFamily(of ...api.Policy) *family {
	f := &family{of: of}
	for i, p := range of {
		for j, q := range of {
			if i != j && policy.Right(p) && policy.Right(q) && policy.Stricter(p, q) {
				f.stricter = append(f.stricter, [2]int{i, j})
			}
		}
	}
	return f
}

// small is a policy of few things, each of which some page below has.
func small() api.Policy {
	return api.Policy{Epoch: 1, Elems: []string{"a", "b", "br", "li", "ol", "p", "ul"}, Attrs: []string{"*.class", "a.href", "b.id"}, Schemes: []string{"x"}, Classes: []string{"c", "d"}, Props: []string{"f", "g"}, Depth: 64, Nodes: 2000, Bytes: 999}
}

// around are a policy, those with one thing less, some with less room, and some
// that may not be.
func around(p api.Policy) []api.Policy {
	of := []api.Policy{p, {}, {Epoch: 1, Nodes: 2000, Depth: 64, Bytes: 999}}
	for i := range listsOf(&p) {
		list := *listsOf(&p)[i]
		for k := range list {
			of = append(of, change(p, func(p *api.Policy) { *listsOf(p)[i] = slices.Delete(slices.Clone(list), k, k+1) }))
		}
		of = append(of, change(p, func(p *api.Policy) { *listsOf(p)[i] = nil }))
		of = append(of, change(p, func(p *api.Policy) {
			*listsOf(p)[i] = append(slices.Clone(list), "", "*", "*.", "javascript", "script", "*.onclick", "a.rel", "*.style", "*.href")
		}))
	}
	for n := range 4 {
		of = append(of, change(p, func(p *api.Policy) { p.Nodes = n }), change(p, func(p *api.Policy) { p.Depth = n }), change(p, func(p *api.Policy) { p.Bytes = 4 * n }))
	}
	return of
}

// few are policies that differ in all that counts, for many pages.
func few() *family {
	p := small()
	return newFamily(p,
		change(p, func(p *api.Policy) { p.Elems = []string{"a", "b", "br"} }),
		change(p, func(p *api.Policy) { p.Elems, p.Attrs = []string{"li", "ol", "p", "ul"}, []string{"*.class"} }),
		change(p, func(p *api.Policy) { p.Attrs, p.Props = []string{"*.href", "*.id", "*.rel"}, nil }),
		change(p, func(p *api.Policy) { p.Nodes, p.Depth = 2, 1 }),
		change(p, func(p *api.Policy) { p.Schemes, p.Classes, p.Bytes = nil, []string{"d"}, 16 }),
	)
}

// checkTree holds Tree at a tree against the chapter's words, by each of some
// policies, and asks the third sentence of the theorem of it.
func (m *model) checkTree(t *testing.T, of []api.Policy, l []api.Node) {
	t.Helper()
	for _, p := range of {
		got, want := Tree(p, l), m.tree(p, l)
		if !same(got, want) {
			t.Fatalf("Tree(%+v, %+v) is\n%+v, and not\n%+v", p, l, got, want)
		}
		if text := m.undropped(l); dom.Text(got) != text {
			t.Fatalf("Tree(%+v, %+v) has the text %q, and not %q", p, l, dom.Text(got), text)
		}
		if policy.Right(p) && safe.Safe(p, l) {
			m.checkSafe(t, p, l)
		}
	}
}

// checkSafe asks of a safe tree whether its page is clean. A text that is none
// of a page (one that Fix would change) is read as another one.
func (m *model) checkSafe(t *testing.T, p api.Policy, l []api.Node) {
	t.Helper()
	if got := Tree(p, l); !same(got, l) {
		t.Fatalf("%+v is safe by %+v, and cleaned to %+v", l, p, got)
	}
	page := ser.HTML(l)
	if len(page) > p.Bytes || utf.Fix([]byte(page)) != page {
		return
	}
	if got, e := Clean(p, []byte(page)); got != page || e != api.OK {
		t.Fatalf("%q is the page of a tree that is safe by %+v, and cleaned to %q, %d", page, p, got, e)
	}
}

// checkPage holds Clean, and Tree, at a page against the chapter's words, by
// each of some policies, and asks the theorem of it.
func (m *model) checkPage(t *testing.T, f *family, raw string) {
	t.Helper()
	if l, e := dom.Build(tok.Tokens(raw)); e == api.OK {
		m.checkTree(t, f.of, l)
	}
	clean := make([][]api.Node, len(f.of))
	isClean := make([]bool, len(f.of))
	for i, p := range f.of {
		want, e := m.clean(p, []byte(raw))
		if got, other := Clean(p, []byte(raw)); got != want || other != e {
			t.Fatalf("Clean(%+v, %q) is %q, %d, and not %q, %d", p, raw, got, other, want, e)
		}
		if e == api.OK {
			checkTheorem(t, p, raw)
			clean[i], _ = dom.Build(tok.Tokens(want))
			isClean[i] = true
		}
	}
	for _, pair := range f.stricter {
		if isClean[pair[0]] && !safe.Safe(f.of[pair[1]], clean[pair[0]]) {
			t.Fatalf("%q, cleaned by %+v, is not safe by %+v", raw, f.of[pair[0]], f.of[pair[1]])
		}
	}
}

// eachText tells all texts of at most so many of some parts.
func eachText(most int, of []string, tell func(string)) {
	var grow func(s string, more int)
	grow = func(s string, more int) {
		tell(s)
		if more == 0 {
			return
		}
		for _, part := range of {
			grow(s+part, more-1)
		}
	}
	grow("", most)
}

// TestAllShortPages: all pages of a few parts, of several kinds of them.
func TestAllShortPages(t *testing.T) {
	m := newModel()
	f := few()
	for _, c := range []struct {
		most  int
		parts []string
	}{
		{3, []string{"t", "<a href=x:y>", "<a href=/x rel=me>", "<a href=y:>", "</a>", "<b>", "<b id=1 class='d e c d'>", "</b>", "<u>", "</u>", "<br>", "<p style='f:1;h:2'>", "</p>", "<script>", "</script>", "<svg>", "</svg>", "&lt;", "<"}},
		{4, []string{"<ul>", "<ol>", "</ul>", "<li>", "</li>", "<u>", "<p>", "<div>", "t"}},
		{5, []string{"<p>", "</p>", "<b>", "</b>", "<u>", "t"}},
		{5, []string{"<", "b", ">", "/", " ", "a"}},
		{4, []string{"<a ", "href", "=", "x:", "\"", ">", "&", "rel"}},
		{5, []string{"<title>", "</title>", "<b>", "<!--", "-->", "t"}},
		{4, []string{"\r", "\n", "\x00", "\xc2", "\xa0", "&nbsp;", "&#13;", "<b>"}},
	} {
		eachText(c.most, c.parts, func(s string) { m.checkPage(t, f, s) })
	}
}

// TestAllPolicies: pages that have something of all that a policy lets, by all
// policies around two.
func TestAllPolicies(t *testing.T) {
	m := newModel()
	pages := []string{
		"", "a", "<b>", "<p>a<b>b</b><u>c</u></p>d", "<ul><li>a<li>b<ol><li>c</ol></ul>", "<a href=x:y>z</a>", "<a href=https://x rel=me onclick=y>z</a>", "<a href=/x class='c tag' id=1 style='f:1;color:red'>z", "<img src=/x alt=y><img src=mailto:x>",
		"<b class='d c d tag mention tag' id=x cite=/y>z</b>", "<b style='g:1;f:2;g:3;text-align:left;color:1'>", "<script>x</script><i>y", "<svg><b>x</svg>y", "<b><i><b><i>x", "<br><br>x<br>", "<a href=javascript:x><b style=x:y class=z>", "<a><a href=//x>y",
	}
	for _, p := range []api.Policy{full(), small()} {
		f := newFamily(around(p)...)
		for _, s := range pages {
			m.checkPage(t, f, s)
		}
	}
}

// eachTree tells all trees of at most so many nodes, each of which is one of
// those, with all that fit within it.
func eachTree(most int, of []api.Node, tell func([]api.Node)) {
	var grow func(l []api.Node, left int, then func([]api.Node, int))
	grow = func(l []api.Node, left int, then func([]api.Node, int)) {
		then(l, left)
		if left == 0 {
			return
		}
		for _, n := range of {
			grow(nil, left-1, func(kids []api.Node, left int) {
				one := n
				one.Kids = kids
				grow(append(slices.Clone(l), one), left, then)
			})
		}
	}
	grow(nil, most, func(l []api.Node, _ int) { tell(l) })
}

// TestAllSmallTrees: of trees that no page has, too, as those with texts side by
// side, or of names that are none.
func TestAllSmallTrees(t *testing.T) {
	m := newModel()
	of := around(small())
	ask := func(l []api.Node) { m.checkTree(t, of, l) }
	eachTree(2, tree(
		txt("t"), txt(""), elem("a"), elem("b"), elem("br"), elem("u"), elem("p"), elem("script"), elem("svg"), elem("*"), link("x:y"), link("/x"), link("javascript:x"), with(elem("a"), "href", "/x"), with(elem("a"), "rel", nofol), with(elem("a"), "rel", nofol, "href", "/x"),
		with(elem("a"), "href", "/x", "rel", nofol, "class", "c"), with(elem("b"), "class", "d c", "style", "g: 1; f: 2", "id", ""), with(elem("b"), "class", "c  c x"), with(elem("b"), "style", "f:1"), with(elem("b"), "id", "1", "id", "1"), with(txt("t"), "class", "c"), api.Node{Name: "b", Text: "t"},
	), ask)
	eachTree(4, tree(txt("t"), elem("b"), elem("u"), elem("svg")), ask)
	eachTree(3, tree(txt("t"), txt(""), elem("u"), elem("ul"), elem("li"), link("x:y")), ask)
	eachTree(5, tree(txt("t"), elem("b")), func(l []api.Node) { m.checkTree(t, few().of, l) })
}

// TestAllAttrLists: all lists of at most four of some attributes, of an a and
// of another element.
func TestAllAttrLists(t *testing.T) {
	m := newModel()
	p := small()
	of := []api.Policy{p, change(p, func(p *api.Policy) { p.Attrs = []string{"*.class", "*.href", "*.id", "*.rel"} }), change(p, func(p *api.Policy) { p.Attrs = p.Attrs[2:] }), change(p, func(p *api.Policy) { p.Props, p.Classes, p.Schemes = nil, nil, nil })}
	attrs := [][2]string{{"href", "/x"}, {"href", "x:"}, {"href", "y:"}, {"rel", nofol}, {"rel", ""}, {"class", "c d c"}, {"class", ""}, {"id", ""}, {"style", "f:1;x"}}
	var grow func(l []string)
	grow = func(l []string) {
		for _, name := range []string{"a", "b"} {
			m.checkTree(t, of, tree(with(elem(name), l...), elem("u", with(elem(name, txt("t")), l...))))
		}
		if len(l) == 8 {
			return
		}
		for _, a := range attrs {
			grow(append(slices.Clone(l), a[0], a[1]))
		}
	}
	grow(nil)
}

// TestAllShortValues: all short texts, as values of each kind.
func TestAllShortValues(t *testing.T) {
	m := newModel()
	p := small()
	of := []api.Policy{p, change(p, func(p *api.Policy) {
		p.Classes, p.Props, p.Schemes = []string{"", "c", "cd"}, []string{"", "f"}, []string{"", "f"}
	})}
	ask := func(most int, name string, parts ...string) {
		eachText(most, parts, func(s string) {
			m.checkTree(t, of, tree(with(elem("a"), name, s)))
			m.checkTree(t, of, tree(with(elem("b"), name, s)))
		})
	}
	ask(6, "class", " ", "c", "d", "\t")
	ask(5, "class", " ", "c", "cd", "C", "\u00a0")
	ask(5, "style", "f", "g", ":", ";", "; ", "1")
	ask(5, "href", "x", ":", "/", " ", "\t")
	ask(4, "rel", "nofollow", "noopener", " ", "x")
	ask(4, "id", "\"", "&", "<", "\xff", " ")
}

// TestAllDropped: each name that is dropped, and each that is nearly one, in
// pages and trees.
func TestAllDropped(t *testing.T) {
	m := newModel()
	f := few()
	names := append(strings.Fields(dropped), "b", "u", "base", "input", "link", "meta", "param", "frame", "div", "option", "g", "mi", "x-y")
	for _, base := range names {
		for _, name := range []string{base, base + "x", base[:len(base)-1], strings.ToUpper(base)} {
			if got, want := Dropped(name), m.dropped.MatchString(name); got != want {
				t.Errorf("Dropped(%q) is %v", name, got)
			}
			lets := change(small(), func(p *api.Policy) { p.Elems = append(p.Elems, name) })
			m.checkTree(t, append(f.of, lets), tree(txt("a"), elem(name, txt("b"), elem("b", txt("c"))), txt("d"), elem("b", elem(name))))
			for _, page := range []string{"a<N>b</N>c", "<N><b>x</N>y", "<p>a<N>b<p>c</N>d", "<b><N>x</b>y", "<N/>x", "<N id=1 class=c>x<b>", "</N>x", "<N><N>x</N>y</N>z", "<li><N><li>x</N>", "<N><!--</N>-->x"} {
				m.checkPage(t, f, strings.ReplaceAll(page, "N", name))
			}
		}
	}
}

// TestAllAtTheLimits: pages as large as may be at all, where the policy lets as
// much, and a little less.
func TestAllAtTheLimits(t *testing.T) {
	m := newModel()
	p := change(small(), func(p *api.Policy) { p.Bytes = 16384 })
	of := []api.Policy{p}
	for _, n := range []int{1, 2, 3} {
		of = append(of, change(p, func(p *api.Policy) { p.Depth -= n }), change(p, func(p *api.Policy) { p.Nodes -= n }))
	}
	f := newFamily(of...)
	for _, n := range []int{61, 62, 63, 64, 65} {
		for _, in := range []string{"", "t", "<br>", "<u>t", "<b>", "</b><b>t"} {
			m.checkPage(t, f, strings.Repeat("<b>", n)+in)
			m.checkPage(t, f, "<u>"+strings.Repeat("<b>", n)+in)
		}
	}
	for _, n := range []int{1997, 1998, 1999, 2000, 2001} {
		for _, front := range []string{"", "t", "<b>", "<u>", "<svg></svg>", "t<u>t"} {
			m.checkPage(t, f, front+strings.Repeat("<br>", n))
		}
	}
	for _, n := range []int{16383, 16384, 16385} {
		for _, byte1 := range []string{"a", "<", "&", "\xff", "\r", "\x00"} {
			m.checkPage(t, f, strings.Repeat(byte1, n))
		}
	}
}

// policyOf is one whose lists are those of a text's parts; it may be, if each
// of them may.
func policyOf(s string) api.Policy {
	p := api.Policy{Epoch: 1, Depth: 1 + len(s)%64, Nodes: 1 + len(s)*len(s)%2000, Bytes: 1 + len(s)*len(s)*len(s)%16384}
	for _, part := range strings.Split(s, "|") {
		if part == "" {
			continue
		}
		if i := strings.IndexByte("easCp", part[0]); i >= 0 {
			list := listsOf(&p)[i]
			*list = append(*list, part[1:])
		}
	}
	for _, list := range listsOf(&p) {
		slices.Sort(*list)
		*list = slices.Compact(*list)
	}
	return p
}

// FuzzTexts asks of the page, and of the policies, that texts tell.
func FuzzTexts(f *testing.F) {
	for _, s := range []string{
		"", "<a href=x:y rel=me>t", "<b class='c e d c'>t<br><a>t", "<b style='f: 1; G:2'>t", "<p><b><div>", "<svg><p>x</svg>y", "<script>x</script>y", "<ul><li>a<li><u><li>b", "<u>a</u>b<u>c", "<title>&lt;b></title>", "\xff\r\n\x00", "<b id=\"&quot;<\">", "<!--x-->y", strings.Repeat("<b>", 65),
	} {
		f.Add(s, "eb|ea|ebr|ep|a*.class|aa.href|ab.id|sx|Cc|Cd|pf|pg", "ea|eb|aa.class|Cc")
	}
	m := newModel()
	f.Fuzz(func(t *testing.T, s, one, other string) {
		all := newFamily(policyOf(one), policyOf(other), policyOf(one+"|"+other), small(), full())
		m.checkPage(t, all, s)
		for _, name := range []string{"class", "style", "href", "rel", "id", s} {
			m.checkTree(t, all.of, tree(with(elem("a", txt(s)), name, s), elem(s, txt(s)), with(elem("b"), name, one, "href", s)))
		}
		if Dropped(s) != m.dropped.MatchString(s) {
			t.Fatalf("Dropped(%q) is %v", s, Dropped(s))
		}
	})
}
