package ser

import (
	"regexp"
	"slices"
	"strings"
	"testing"

	"verso/api"
	"verso/dom"
	"verso/tok"
)

// What follows is the chapter's words over texts: where a node stands is the
// path of the elements around it, and what may not stand there is looked for
// in the path.

// spot is a node, and where it stands.
type spot struct {
	n     api.Node
	path  string // each element around it, with a `/` behind
	ahead string // what stands right ahead of it: an element's name, `"` of a text, or empty
}

// spots are all nodes of a tree, and within.
func spots(l []api.Node, path string) []spot {
	var out []spot
	ahead := ""
	for _, n := range l {
		out = append(out, spot{n, path, ahead})
		ahead = n.Name
		within := path + n.Name + "/"
		if n.Name == "" {
			ahead, within = `"`, path
		}
		out = append(out, spots(n.Kids, within)...)
	}
	return out
}

// rules are the words by which a tree is stable or not.
type rules struct {
	elem, raw, attr, void, block *regexp.Regexp
	items                        *regexp.Regexp
}

func newRules() rules {
	one := func(names string) *regexp.Regexp {
		return regexp.MustCompile("^(" + strings.ReplaceAll(names, " ", "|") + ")$")
	}
	return rules{
		elem: regexp.MustCompile(`^[a-z][a-z0-9-]*$`), raw: one(raws), attr: regexp.MustCompile(`^[a-z][a-z0-9_:-]*$`),
		void: one(voids), block: one(blocks), items: regexp.MustCompile(`/(li|ul|ol)/`),
	}
}

// broken tells which of the chapter's words a tree breaks; empty: none.
func (r rules) broken(l []api.Node) string {
	all := spots(l, "/")
	for _, s := range all {
		what := r.ofElement(s)
		if s.n.Name == "" {
			what = r.ofText(s)
		}
		if what != "" {
			return what
		}
	}
	deep := 0
	for _, s := range all {
		if s.n.Name != "" {
			deep = max(deep, strings.Count(s.path, "/"))
		}
	}
	switch {
	case deep > 64:
		return "too deep"
	case len(all) > 2000:
		return "too many nodes"
	}
	return ""
}

func (r rules) ofText(s spot) string {
	switch {
	case len(s.n.Attrs) > 0:
		return "a text with attributes"
	case len(s.n.Kids) > 0:
		return "a text with nodes within"
	case s.n.Text == "":
		return "an empty text"
	case s.ahead == `"`:
		return "a text behind a text"
	}
	return ""
}

func (r rules) ofElement(s spot) string {
	switch {
	case s.n.Text != "":
		return "an element with a text of its own"
	case !r.elem.MatchString(s.n.Name) || r.raw.MatchString(s.n.Name):
		return "a name that may not be an element's"
	case len(s.n.Kids) > 0 && r.void.MatchString(s.n.Name):
		return "nodes within a void element"
	case r.block.MatchString(s.n.Name) && strings.Contains(s.path, "/p/"):
		return "a block within a p"
	case s.n.Name == "li" && r.innermost(s.path) == "/li/":
		return "a li within a li"
	}
	names := map[string]bool{}
	for _, a := range s.n.Attrs {
		if !r.attr.MatchString(a.Name) {
			return "a name that may not be an attribute's"
		}
		if names[a.Name] {
			return "two attributes of one name"
		}
		names[a.Name] = true
	}
	return ""
}

// innermost is the last of li, ul and ol in a path.
func (r rules) innermost(path string) string {
	// What is found does not overlap: each needs a `/` of its own on both sides.
	all := r.items.FindAllString(strings.ReplaceAll(path, "/", "//"), -1)
	if len(all) == 0 {
		return ""
	}
	return all[len(all)-1]
}

// page is a tree's page, by the chapter's words.
func (r rules) page(l []api.Node) string {
	text := strings.NewReplacer("&", "&amp;", "<", "&lt;", ">", "&gt;", "\u00a0", "&nbsp;")
	var out []string
	for _, n := range l {
		if n.Name == "" {
			out = append(out, text.Replace(n.Text))
			continue
		}
		out = append(out, "<"+n.Name)
		for _, a := range n.Attrs {
			out = append(out, " "+a.Name+`="`+strings.ReplaceAll(text.Replace(a.Value), `"`, "&quot;")+`"`)
		}
		out = append(out, ">")
		if !r.void.MatchString(n.Name) {
			out = append(out, r.page(n.Kids), "</"+n.Name+">")
		}
	}
	return strings.Join(out, "")
}

// check holds HTML and Stable at a tree against the chapter's words, and asks
// the theorem of it.
func (r rules) check(t *testing.T, l []api.Node) {
	page := HTML(l)
	if want := r.page(l); page != want {
		t.Fatalf("HTML(%+v) is %q, not %q", l, page, want)
	}
	broken := r.broken(l)
	if Stable(l) != (broken == "") {
		t.Fatalf("Stable(%+v) is %v: %s", l, broken != "", broken)
	}
	got, e := dom.Build(tok.Tokens(page))
	kept := e == api.OK && same(got, l)
	if broken == "" && !kept {
		t.Fatalf("%+v is read as %+v, %d", l, got, e)
	}
	if kept && broken != "" && broken != "too deep" && !strings.HasPrefix(broken, "a name that may not be") {
		t.Fatalf("%+v is read as it is: %s", l, broken)
	}
}

// checkPage asks the theorem of what is built of a page.
func (r rules) checkPage(t *testing.T, page string) {
	l := tok.Tokens(page)
	got, e := dom.Build(l)
	if e != api.OK {
		return
	}
	r.check(t, got)
	for _, one := range l {
		if one.Name != "" && (!r.elem.MatchString(one.Name) || r.raw.MatchString(one.Name)) {
			return
		}
		if slices.ContainsFunc(one.Attrs, func(a api.Attr) bool { return !r.attr.MatchString(a.Name) }) {
			return
		}
	}
	if _, deep := dom.Size(got); Stable(got) != (deep <= 64) {
		t.Fatalf("what is built of %q is %d deep; stable: %v", page, deep, deep > 64)
	}
}

// allTrees hands on all trees of at most so many nodes, each of which is one of
// those, with all that fit within it.
func allTrees(most int, of []api.Node, each func([]api.Node)) {
	var grow func(l []api.Node, left int, then func([]api.Node, int))
	grow = func(l []api.Node, left int, then func([]api.Node, int)) {
		then(l, left)
		if left == 0 {
			return
		}
		for _, n := range of {
			grow(nil, left-1, func(kids []api.Node, left int) {
				one := n
				one.Kids = kids
				grow(append(slices.Clone(l), one), left, then)
			})
		}
	}
	grow(nil, most, func(l []api.Node, _ int) { each(l) })
}

// named are elements of names, and the text a.
func named(names string) []api.Node {
	out := tree(txt("a"))
	for _, name := range strings.Fields(names) {
		out = append(out, elem(name))
	}
	return out
}

func TestAllSmallTrees(t *testing.T) {
	r := newRules()
	ask := func(l []api.Node) { r.check(t, l) }
	allTrees(3, named("p div li ul ol b br hr pre script B"), ask)
	allTrees(4, named("p li ul b br"), ask)
	allTrees(5, named("p div"), ask)
	allTrees(5, named("li ul"), ask)
	allTrees(6, named("b"), ask)
	for _, name := range strings.Fields(voids + " " + blocks + " " + raws + " span td dt a-b BR") {
		allTrees(3, named("p li "+name), ask)
	}
	odd := tree(txt("a"), txt("<"), txt(""), elem("b"), api.Node{Name: "b", Text: "a"}, with(txt("a"), "c", "d"), with(elem("b"), "c", "\"&", "d", ""), with(elem("br"), "c", "", "c", ""), with(elem("p"), "C", "x"), elem("1"))
	allTrees(3, odd, ask)
}

// TestAllSmallTreesAtTheLimits: the same where few more nodes, or elements
// within one another, may be.
func TestAllSmallTreesAtTheLimits(t *testing.T) {
	r := newRules()
	allTrees(3, named("p li ul b br"), func(l []api.Node) {
		for _, deep := range []int{61, 62, 63, 64} {
			r.check(t, deepTree(deep, "b", l...))
		}
	})
	allTrees(2, named("p li br"), func(l []api.Node) {
		for _, many := range []int{1998, 1999, 2000} {
			ahead := slices.Repeat(tree(elem("br")), many)
			r.check(t, append(ahead, l...))
			r.check(t, tree(elem("div", append(ahead[2:], l...)...), elem("br")))
		}
	})
}

// TestAllShortPages: what is built of a page is stable, however it came to be.
func TestAllShortPages(t *testing.T) {
	r := newRules()
	var all func(page string, more int, of []string)
	all = func(page string, more int, of []string) {
		r.checkPage(t, page)
		if more == 0 {
			return
		}
		for _, s := range of {
			all(page+s, more-1, of)
		}
	}
	all("", 4, strings.Fields("<p> <div> <li> <ul> <B> <br/> </p> </div> </li> </ul> </b> </br> a"))
	all("", 6, strings.Fields("<p> <li> <ul> </ul> a"))
	all("", 4, strings.Fields("<b <a c=1 C=2 d='&quot;' > a&lt;&#0; </b> <!--x--> </> &nbsp; <title> <b:> <script/>"))
	all("", 5, strings.Split("< / b > p = \" ! &", " "))
	all(strings.Repeat("<b>", 62), 3, strings.Fields("<p> <li> <b> <br> </b> </p> a"))
	all(strings.Repeat("<br>", 1998), 3, strings.Fields("<p> <b> <br> </b> </p> a"))
}

// treeOf is a tree as a text tells it, in parts with a `|` between: `<` and a
// name, `>` behind what stands within, `"` and a text, `=` and the name and
// value of an attribute of the node that was told last, `'` and a text of its
// own. Every text tells a tree, and every tree without `|` can be told.
func treeOf(s string) []api.Node {
	open := make([]api.Node, 1)
	last := &open[0]
	end := func() {
		n := open[len(open)-1]
		open = open[:len(open)-1]
		in := &open[len(open)-1]
		in.Kids = append(in.Kids, n)
		last = &in.Kids[len(in.Kids)-1]
	}
	for _, part := range strings.Split(s, "|") {
		if part == "" || len(open) > 70 {
			continue
		}
		switch rest := part[1:]; part[0] {
		case '<':
			open = append(open, api.Node{Name: rest})
			last = &open[len(open)-1]
		case '>':
			if len(open) > 1 {
				end()
			}
		case '=':
			name, value, _ := strings.Cut(rest, "=")
			last.Attrs = append(last.Attrs, api.Attr{Name: name, Value: value})
		case '\'':
			last.Text = rest
		default:
			open = append(open, txt(strings.TrimPrefix(part, `"`)))
			end()
		}
	}
	for len(open) > 1 {
		end()
	}
	return open[0].Kids
}

// FuzzTexts asks of the tree that a text tells, and of the text as a page, and
// as a text and a value in one.
func FuzzTexts(f *testing.F) {
	for _, s := range []string{
		"", "<p|\"a|<b|\"c", "<p|<b|<div|>|>|>|\"x", "<ul|<li|=id=a&\"|\"x|>|<li|<ol|<li|<br|=a=|=b=c", "<li|<b|<li", "<|\"a|'b", "<script|\"x", "\"a|=b=c|<B|<br|<b", "a|b", "<b|'x|>|\"\xff|<\xff|=\xff=\xff",
		"<p>a<div>b</p>c", "<a href=\"x&quot;\" A=1 b:c=2>y<!--z-->", "<title><b></title>", "</p></br><hr/><li>", "&nbsp;\u00a0\xc2\xa0&#160;",
	} {
		f.Add(s)
	}
	f.Add(strings.Repeat("<b|", 65))
	f.Add(strings.Repeat("<b>", 64) + "<br>")
	f.Add(strings.Repeat("<p>a", 1000))
	r := newRules()
	f.Fuzz(func(t *testing.T, s string) {
		r.check(t, treeOf(s))
		r.check(t, tree(txt(s), with(elem("b", elem("br"), txt(s)), "a", s)))
		r.check(t, tree(with(elem(s, txt("a")), "a", ""), with(elem("b"), s, "c")))
		r.checkPage(t, s)
	})
}
