package ser

import (
	"reflect"
	"slices"
	"strings"
	"testing"
	"unsafe"

	"verso/api"
	"verso/dom"
	"verso/tok"
)

// The tests of ordinary inputs, and of the edges that the chapter names, say
// what they want page by page. Those in model_test.go hold the package against
// the chapter's words, at many trees.

const (
	voids  = "area base br col embed hr img input link meta param source track wbr"
	blocks = "address article aside blockquote div dl fieldset figure footer form h1 h2 h3 h4 h5 h6 header hr li main nav ol p pre section table ul"
	raws   = "script style xmp iframe noembed noframes plaintext textarea title"
)

// txt, elem and attrs are what a tree is made of, as the tables write it.

func txt(s string) api.Node { return api.Node{Text: s} }

func elem(name string, kids ...api.Node) api.Node { return api.Node{Name: name, Kids: kids} }

// attrs are names and values, one behind the other.
func attrs(s ...string) []api.Attr {
	var out []api.Attr
	for i := 0; i < len(s); i += 2 {
		out = append(out, api.Attr{Name: s[i], Value: s[i+1]})
	}
	return out
}

// with is n with attributes.
func with(n api.Node, s ...string) api.Node {
	n.Attrs = attrs(s...)
	return n
}

// tree is a list of nodes as the tables write it.
func tree(l ...api.Node) []api.Node { return l }

// same tells whether two trees are the same; nil and empty lists are.
func same(a, b []api.Node) bool {
	return slices.EqualFunc(a, b, func(x, y api.Node) bool {
		return x.Name == y.Name && x.Text == y.Text && slices.Equal(x.Attrs, y.Attrs) && same(x.Kids, y.Kids)
	})
}

type row struct {
	l    []api.Node
	want string
}

// askPages asks pages alone: of trees that may be stable or not.
func askPages(t *testing.T, rows []row) {
	t.Helper()
	for _, r := range rows {
		if got := HTML(r.l); got != r.want {
			t.Errorf("HTML(%+v) is %q, not %q", r.l, got, r.want)
		}
	}
}

// askStable asks of stable trees that they are, and that they are read from
// their pages as they are.
func askStable(t *testing.T, what string, l []api.Node) {
	t.Helper()
	if !Stable(l) {
		t.Errorf("%s: Stable(%.200s) is false", what, HTML(l))
	}
	if got, e := dom.Build(tok.Tokens(HTML(l))); e != api.OK || !same(got, l) {
		t.Errorf("%s: the page %.200s is read as %.200s, %d", what, HTML(l), HTML(got), e)
	}
}

func askNot(t *testing.T, what string, l []api.Node) {
	t.Helper()
	if Stable(l) {
		t.Errorf("%s: Stable(%+.200v) is true", what, l)
	}
}

func TestExamples(t *testing.T) {
	rows := []row{
		{tree(elem("p", txt("a"), elem("b", txt("c")))), "<p>a<b>c</b></p>"},
		{tree(elem("br")), "<br>"},
		{tree(txt("a<b")), "a&lt;b"},
	}
	askPages(t, rows)
	for _, r := range rows {
		askStable(t, "example", r.l)
	}
	askNot(t, "p of div", tree(elem("p", elem("div"))))
}

func TestPages(t *testing.T) {
	rows := []row{
		{nil, ""},
		{tree(), ""},
		{tree(txt("a")), "a"},
		{tree(txt(`&<>"'`)), `&amp;&lt;&gt;"'`},
		{tree(txt("a\u00a0b")), "a&nbsp;b"},
		{tree(txt("&lt;&#65;&")), "&amp;lt;&amp;#65;&amp;"},
		{tree(txt("\xff\xc2\x00\r\n\t")), "\xff\xc2\x00\r\n\t"},
		{tree(txt("</p><!-- x -->")), "&lt;/p&gt;&lt;!-- x --&gt;"},
		{tree(elem("b")), "<b></b>"},
		{tree(elem("b", txt(`"`))), `<b>"</b>`},
		{tree(txt("a"), elem("b"), txt("c")), "a<b></b>c"},
		{tree(elem("b", elem("i"), elem("u", txt("x")), txt("y")), elem("i")), "<b><i></i><u>x</u>y</b><i></i>"},
		{tree(elem("ul", elem("li", txt("a")), elem("li", elem("ol", elem("li", txt("b")))))), "<ul><li>a</li><li><ol><li>b</li></ol></li></ul>"},
		{tree(with(elem("a", txt("y")), "href", `x"&`, "id", ""), txt("z")), `<a href="x&quot;&amp;" id="">y</a>z`},
		{tree(with(elem("a"), "b", "<>'\u00a0&quot;")), `<a b="&lt;&gt;'&nbsp;&amp;quot;"></a>`},
		{tree(with(elem("img"), "b", "1", "a", "2")), `<img b="1" a="2">`},
		{tree(with(elem("a"), "x", "\xff\x00\r\n =/>")), "<a x=\"\xff\x00\r\n =/&gt;\"></a>"},
		{tree(elem("h1"), elem("x-1-"), with(elem("a"), "b_:-1", "c")), `<h1></h1><x-1-></x-1-><a b_:-1="c"></a>`},
	}
	askPages(t, rows)
	for _, r := range rows {
		askStable(t, r.want, r.l)
	}
}

// TestPagesOfOtherTrees: a page is made of every tree, by the same words; what
// they do not name does not count, and names stand as they are.
func TestPagesOfOtherTrees(t *testing.T) {
	rows := []row{
		{tree(txt("")), ""},
		{tree(api.Node{}, api.Node{}), ""},
		{tree(txt("a"), txt("b"), txt(""), txt("c")), "abc"},
		{tree(api.Node{Text: "a", Kids: tree(txt("b"), elem("i"))}), "a"},
		{tree(api.Node{Kids: tree(elem("i"))}), ""},
		{tree(with(txt("a"), "b", "c")), "a"},
		{tree(api.Node{Name: "b", Text: "x", Kids: tree(txt("y"))}), "<b>y</b>"},
		{tree(api.Node{Name: "br", Text: "x"}), "<br>"},
		{tree(elem("br", txt("a"), elem("b"))), "<br>"},
		{tree(with(elem("img", txt("a")), "b", "c")), `<img b="c">`},
		{tree(elem("BR", txt("a"))), "<BR>a</BR>"},
		{tree(elem("p", elem("div", elem("p")))), "<p><div><p></p></div></p>"},
		{tree(elem("li", elem("li"))), "<li><li></li></li>"},
		{tree(elem("script", txt("a<b"))), "<script>a&lt;b</script>"},
		{tree(elem("plaintext", elem("b"))), "<plaintext><b></b></plaintext>"},
		{tree(elem("a b<&\"", txt("c"))), "<a b<&\">c</a b<&\">"},
		{tree(with(elem("a"), "", "", "x y&\"", "1")), "<a =\"\" x y&\"=\"1\"></a>"},
		{tree(with(elem("a"), "b", "1", "b", "2", "B", "3")), `<a b="1" b="2" B="3"></a>`},
		{tree(elem("\xff"), elem(" "), elem("/")), "<\xff></\xff>< ></ ></><//>"},
	}
	askPages(t, rows)
	for _, r := range rows {
		askNot(t, r.want, r.l)
	}
}

// TestVoid: each of them has no end, and nothing within.
func TestVoid(t *testing.T) {
	for _, name := range strings.Fields(voids) {
		askPages(t, []row{{tree(elem("b", elem(name), txt("a"))), "<b><" + name + ">a</b>"}, {tree(elem(name, elem("b"))), "<" + name + ">"}})
		askStable(t, name, tree(elem("b", elem(name), txt("a"), with(elem(name), "x", "y"))))
		askNot(t, name, tree(elem(name, txt("a"))))
		askNot(t, name, tree(elem("b", elem(name, elem("b")))))
		askNot(t, name, tree(elem(name, api.Node{})))
	}
	for _, name := range strings.Fields("b a span td area2 brr b-r img-") {
		askStable(t, name, tree(elem(name, txt("a"))))
	}
}

func TestTexts(t *testing.T) {
	for _, s := range []string{"a", " ", "\x00", "\xff", "\r", "<", "&", "&amp;", "</", "-->", "\u00a0", "\xc2", "\xa0"} {
		for _, l := range [][]api.Node{tree(txt(s)), tree(elem("b", txt(s)), txt(s)), tree(txt(s), elem("br"), txt(s)), tree(txt(s), elem("b", txt(s)), txt(s))} {
			askStable(t, s, l)
		}
		for _, l := range [][]api.Node{
			tree(txt(s), txt(s)), tree(elem("b", txt("a"), txt(s))), tree(txt(s), txt("")), tree(txt(""), txt(s)), tree(elem("br"), txt(s), txt(s)), tree(txt(s), elem("b", txt(s), elem("i"), txt(s), txt(s))),
			tree(with(txt(s), "a", "b")), tree(api.Node{Text: s, Kids: tree(elem("b"))}), tree(api.Node{Text: s, Kids: tree(txt("a"))}), tree(elem("b", with(txt(s), "", ""))),
			tree(api.Node{Name: "b", Text: s}), tree(elem("i", api.Node{Name: "br", Text: s})), tree(api.Node{Name: "b", Text: s, Kids: tree(txt("a"))}),
		} {
			askNot(t, s, l)
		}
	}
	for _, l := range [][]api.Node{tree(txt("")), tree(api.Node{}), tree(elem("b"), api.Node{}), tree(api.Node{}, elem("b")), tree(elem("b", txt(""))), tree(api.Node{Kids: tree(txt("a"))}), tree(with(api.Node{}, "a", "b"))} {
		askNot(t, "an empty text", l)
	}
	askStable(t, "nothing", nil)
	askStable(t, "nothing", tree())
	askStable(t, "empty lists", tree(api.Node{Text: "a", Attrs: attrs(), Kids: tree()}, api.Node{Name: "br", Attrs: []api.Attr{}, Kids: []api.Node{}}))
}

// everywhere hands on trees in which n stands, at places of all kinds.
func everywhere(n api.Node) [][]api.Node {
	return [][]api.Node{
		tree(n), tree(txt("a"), n), tree(n, txt("a")), tree(elem("b"), n), tree(n, elem("b")), tree(elem("b", n)), tree(elem("b", elem("i", txt("a"), n)), elem("u")),
	}
}

// TestElementNames: one byte more or less than a name has.
func TestElementNames(t *testing.T) {
	for _, name := range strings.Fields("a z b1 b-1 b- b-- h1 abc a0 a9 z-z titl titles script1 s-cript svg math xmp- p-p") {
		for _, l := range everywhere(elem(name)) {
			askStable(t, name, l)
		}
	}
	wrong := append(strings.Fields("A Z B bB Br P DIV 1 1b - -b _ _b b_ b:c :b b.c b/ /b b> <b b= b\" b' é bé \xff b\xff b\x00 ` { b` b{ b@ b[ bſ"), " ", "b ", " b", "b c", "b\n", "b\t", "b\u00a0", "\x00")
	for _, name := range append(wrong, strings.Fields(raws)...) {
		for _, l := range everywhere(elem(name)) {
			askNot(t, name, l)
		}
	}
	checkBytes(t, "abcdefghijklmnopqrstuvwxyz", "-", func(s string) bool { return Stable(tree(elem(s))) })
}

func TestAttrNames(t *testing.T) {
	of := func(names ...string) api.Node {
		n := api.Node{Name: "b"}
		for _, name := range names {
			n.Attrs = append(n.Attrs, api.Attr{Name: name, Value: "v"})
		}
		return n
	}
	for _, name := range strings.Fields("a z b1 b-1 b- b_ b: xlink:href data-x_y a0 a9 a::_-- on script style title textarea") {
		for _, l := range append(everywhere(of(name)), tree(of("a"+name, name)), tree(of(name, "a"+name))) {
			askStable(t, name, l)
		}
		for _, l := range append(everywhere(of(name, name)), tree(of(name, "a"+name, name)), tree(of("a"+name, name, "b", name)), tree(of(name, strings.ToUpper(name)))) {
			askNot(t, name, l)
		}
	}
	for _, name := range append(strings.Fields("A Z bB 1 1b - -b _ _b : :b b.c b/ /b b> <b = b= =b b\" ' é bé \xff b\xff b\x00 ` { b` b{ b@ b[ @b *b"), "", " ", "b ", " b", "b c", "b\n", "\x00") {
		for _, l := range append(everywhere(of(name)), tree(of("a", name)), tree(of(name, "a"))) {
			askNot(t, name, l)
		}
	}
	askStable(t, "one name in two elements", tree(with(elem("b", with(elem("i"), "a", "1")), "a", "1"), with(elem("b"), "a", "1")))
	askNot(t, "one name, two values", tree(with(elem("b"), "a", "1", "a", "2")))
	askNot(t, "one name, twice of many", tree(with(elem("b"), "a", "", "b", "", "c", "", "d", "", "b", "x")))
	askNot(t, "of a void one", tree(with(elem("br"), "a", "1", "a", "1")))
	for _, v := range []string{"", " ", `"`, `'`, `"'`, "&", "&quot;", "&#34;", "<", ">", "/", "=", "a b", "\x00", "\xff", "\r\n", "\u00a0", "javascript:x", "\"><script>"} {
		askStable(t, "value", tree(with(elem("b", with(elem("br"), "y", v, "x", v)), "a", v, "c", v)))
	}
	checkBytes(t, "abcdefghijklmnopqrstuvwxyz", "-_:", func(s string) bool { return Stable(tree(with(elem("b"), s, ""))) })
}

// checkBytes asks at each byte whether it may begin a name, stand within one,
// and end one.
func checkBytes(t *testing.T, first, others string, may func(string) bool) {
	t.Helper()
	within := first + "0123456789" + others
	for c := range 256 {
		b := string([]byte{byte(c)})
		for s, want := range map[string]bool{b: strings.Contains(first, b), b + "q": strings.Contains(first, b), "q" + b: strings.Contains(within, b), "q" + b + "q": strings.Contains(within, b)} {
			if may(s) != want {
				t.Errorf("the name %q: %v", s, !want)
			}
		}
	}
}

func TestBlocksInP(t *testing.T) {
	for _, name := range strings.Fields(blocks) {
		for _, l := range [][]api.Node{
			tree(elem("p", elem(name))), tree(elem("p", txt("a"), elem(name), txt("b"))), tree(elem("p", elem("b", elem("i", elem(name))))), tree(elem("p", elem("b"), elem("i", txt("a"), elem(name)))),
			tree(elem("div", elem("p", elem("b", elem(name))))), tree(elem("p"), elem("p", elem(name))), tree(elem("p", elem("ul2", elem("span", elem("td", elem(name)))))),
		} {
			askNot(t, name, l)
		}
		ls := [][]api.Node{tree(elem(name)), tree(elem("p", txt("a")), elem(name), elem("p")), tree(elem("b", elem(name))), tree(elem("b", elem("p", elem("i")), elem(name)))}
		if name != "hr" && name != "p" {
			ls = append(ls, tree(elem(name, elem("p", txt("a"), elem("br")))), tree(elem(name, elem("b", elem("p")), txt("a"))))
		}
		for _, l := range ls {
			askStable(t, name, l)
		}
	}
	for _, name := range strings.Fields("b i span td dt dd tr h7 h0 a object pp p1 br img center") {
		askStable(t, name, tree(elem("p", elem(name), elem("b", elem(name)))))
	}
	askNot(t, "blocks within p within blocks", tree(elem("div", elem("p"), elem("section", elem("p", elem("b", elem("div")))))))
	askStable(t, "blocks within blocks", tree(elem("div", elem("div", elem("pre", elem("h1", elem("p", elem("b"))), elem("table")), elem("hr")))))
	askStable(t, "blocks within what is not p", tree(elem("pp", elem("div", elem("p")))))
}

func TestListItems(t *testing.T) {
	for _, l := range [][]api.Node{
		tree(elem("li")), tree(elem("li"), elem("li")), tree(elem("ul", elem("li", txt("a")), elem("li"))), tree(elem("li", elem("ul", elem("li")))), tree(elem("li", elem("ol", elem("li")))),
		tree(elem("li", elem("ul", elem("b", elem("li"))))), tree(elem("li", elem("b", elem("ol", elem("i", elem("li")))))), tree(elem("ul", elem("ol", elem("li", elem("ul", elem("ul", elem("li"))))))),
		tree(elem("b", elem("li", elem("b")), elem("li"))), tree(elem("div", elem("li"))), tree(elem("li", elem("p", txt("a")), elem("ul", elem("li", elem("p")), elem("li")))), tree(elem("li", elem("ul")), elem("li")),
		tree(elem("li", elem("l", elem("li2"), elem("dd")))),
	} {
		askStable(t, HTML(l), l)
	}
	for _, l := range [][]api.Node{
		tree(elem("li", elem("li"))), tree(elem("li", txt("a"), elem("li"))), tree(elem("li", elem("b", elem("li")))), tree(elem("li", elem("div", elem("b", txt("a"), elem("li"))))),
		tree(elem("ul", elem("li", elem("li")))), tree(elem("ol", elem("li", elem("b", elem("li"))))), tree(elem("li", elem("ul", elem("li", elem("li"))))), tree(elem("li", elem("dl", elem("li")))),
		tree(elem("li", elem("ul"), elem("li"))), tree(elem("li", elem("ul", elem("li")), elem("li"))), tree(elem("li", elem("ol", elem("li")), elem("b", elem("li")))), tree(elem("li"), elem("li", elem("li"))),
		tree(elem("li", elem("table", elem("tr", elem("td", elem("li")))))), tree(elem("p", elem("li"))), tree(elem("li", elem("p", elem("ul", elem("li"))))),
	} {
		askNot(t, HTML(l), l)
	}
}

// deepTree is a tree of one element within the other, and l in the innermost.
func deepTree(n int, name string, l ...api.Node) []api.Node {
	for range n {
		l = tree(elem(name, l...))
	}
	return l
}

func TestMostDeep(t *testing.T) {
	for _, c := range []struct {
		what string
		l    []api.Node
		want bool
	}{
		{"64 b", deepTree(64, "b"), true},
		{"65 b", deepTree(65, "b"), false},
		{"66 b", deepTree(66, "b"), false},
		{"a text in 64 b", deepTree(64, "b", txt("a")), true},
		{"a br in 63 b", deepTree(63, "b", elem("br")), true},
		{"a br in 64 b", deepTree(64, "b", elem("br")), false},
		{"a text and a br in 64 b", deepTree(64, "b", txt("a"), elem("br")), false},
		{"64 b behind 64 b", append(deepTree(64, "b"), deepTree(64, "b")...), true},
		{"65 b behind 64 b", append(deepTree(64, "b"), deepTree(65, "b")...), false},
		{"64 b behind 65 b", append(deepTree(65, "b"), deepTree(64, "b")...), false},
		{"64 div", deepTree(64, "div"), true},
		{"1000 b", deepTree(1000, "b"), false},
	} {
		if c.want {
			askStable(t, c.what, c.l)
		} else {
			askNot(t, c.what, c.l)
		}
	}
	// What is too deep may be read as it is: a void element is not open.
	l := deepTree(64, "b", elem("br"))
	if got, e := dom.Build(tok.Tokens(HTML(l))); e != api.OK || !same(got, l) || Stable(got) {
		t.Errorf("a br in 64 b: %d", e)
	}
}

func TestMostNodes(t *testing.T) {
	br := func(n int) []api.Node { return slices.Repeat(tree(elem("br")), n) }
	p := func(n int) []api.Node { return slices.Repeat(tree(elem("p", txt("a"))), n) }
	for _, c := range []struct {
		what string
		l    []api.Node
		want bool
	}{
		{"1999 br", br(1999), true},
		{"2000 br", br(2000), true},
		{"2001 br", br(2001), false},
		{"1000 p of a text", p(1000), true},
		{"1000 p of a text, one more", append(p(1000), txt("a")), false},
		{"1000 p of a text, one more at the front", append(br(1), p(1000)...), false},
		{"1999 br in a b", tree(elem("b", br(1999)...)), true},
		{"2000 br in a b", tree(elem("b", br(2000)...)), false},
		{"2000 nodes, 64 deep", append(br(1936), deepTree(64, "b")...), true},
		{"2001 nodes, 64 deep", append(br(1937), deepTree(64, "b")...), false},
		{"2000 nodes, 65 deep", append(br(1935), deepTree(65, "b")...), false},
		{"200000 p", p(200000), false},
	} {
		if c.want {
			askStable(t, c.what, c.l)
		} else {
			askNot(t, c.what, c.l)
		}
	}
}

// TestLargeTrees: as deep as R7 has it, and with long texts and lists; none of
// it takes long.
func TestLargeTrees(t *testing.T) {
	l := tree(txt("a"))
	for range 1000 {
		l = tree(elem("b", l...), txt("c"))
	}
	if got := HTML(l); got != strings.Repeat("<b>", 1000)+"a"+strings.Repeat("</b>c", 1000) {
		t.Errorf("a deep tree: %d bytes", len(got))
	}
	askNot(t, "a deep tree", l)
	const n = 1 << 17
	if got := HTML(slices.Repeat(tree(elem("b", txt("a"))), n)); got != strings.Repeat("<b>a</b>", n) {
		t.Errorf("a wide tree: %d bytes", len(got))
	}
	askStable(t, "long texts", tree(txt(strings.Repeat("<&a", n)), with(elem("b", txt(strings.Repeat("\u00a0", n))), "a", strings.Repeat("\"&", n))))
	askStable(t, "long names", tree(with(elem(strings.Repeat("a-", n)), strings.Repeat("b:", n), "")))
	many := elem("b")
	for i := range n {
		many.Attrs = append(many.Attrs, api.Attr{Name: letters(i)})
	}
	askStable(t, "many attributes", tree(many))
	many.Attrs[0].Name = many.Attrs[n-1].Name
	askNot(t, "many attributes, two of one name", tree(many))
	deep := deepTree(62, "b", elem("u", slices.Repeat(tree(txt("a"), elem("br")), 968)...))
	askStable(t, "wide where it is deep", deep)
}

// letters is a name of its own for each number.
func letters(i int) string {
	s := "n"
	for ; i > 0; i /= 26 {
		s += string(rune('a' + i%26))
	}
	return s
}

// TestInputsStay: what is handed in is the same behind each call.
func TestInputsStay(t *testing.T) {
	make1 := func() []api.Node {
		l := tree(txt("a<"), with(elem("p", txt("b"), elem("br"), txt("c")), "z", "1", "y", "2"), elem("ul", elem("li"), elem("li")))
		return append(make([]api.Node, 0, 8), l...)
	}
	l := make1()
	askStable(t, "a tree", l)
	if !reflect.DeepEqual(l, make1()) || !reflect.DeepEqual(l[:8][3:], make([]api.Node, 5)) {
		t.Errorf("HTML or Stable change a tree: %+v", l)
	}
	if HTML(l) != HTML(l) || Stable(l) != Stable(l) {
		t.Error("a call answers otherwise when asked again")
	}
}

// TestAnswersAreNew: a page shares no byte with the tree.
func TestAnswersAreNew(t *testing.T) {
	b := []byte("p a v x")
	part := func(i int) string { return unsafe.String(&b[2*i], 1) }
	ls := [][]api.Node{tree(txt(part(3))), tree(txt(""), txt(part(3))), tree(api.Node{Name: part(0), Attrs: attrs(part(1), part(2)), Kids: tree(txt(part(3)))})}
	var got []string
	for _, l := range ls {
		got = append(got, HTML(l))
	}
	for i := range b {
		b[i] = 'z'
	}
	if want := []string{"x", "x", `<p a="v">x</p>`}; !slices.Equal(got, want) {
		t.Errorf("pages share a tree's texts: %q", got)
	}
}
