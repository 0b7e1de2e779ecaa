package dom

import (
	"reflect"
	"slices"
	"strconv"
	"strings"
	"testing"
	"unsafe"

	"verso/api"
)

// The tests of ordinary inputs, and of the edges that the chapter names, say
// what they want node by node. Those in model_test.go hold the package against
// the chapter's words, at many lists of tokens.

const (
	voids  = "area base br col embed hr img input link meta param source track wbr"
	blocks = "address article aside blockquote div dl fieldset figure footer form h1 h2 h3 h4 h5 h6 header hr li main nav ol p pre section table ul"
)

// toks are tokens as the tables write them, with a blank between: `<p` starts,
// `/p` ends, `!a` is a note, and what is else is a text (two quotes are an empty one).
func toks(s string) []api.Token {
	var out []api.Token
	for _, w := range strings.Fields(s) {
		switch w[0] {
		case '<':
			out = append(out, api.Token{Kind: api.TStart, Name: w[1:]})
		case '/':
			out = append(out, api.Token{Kind: api.TEnd, Name: w[1:]})
		case '!':
			out = append(out, api.Token{Kind: api.TComment, Text: w[1:]})
		default:
			out = append(out, api.Token{Kind: api.TText, Text: strings.Trim(w, "'")})
		}
	}
	return out
}

// text and elem are the nodes as the tables write them.

func text(s string) api.Node { return api.Node{Text: s} }

func elem(name string, kids ...api.Node) api.Node { return api.Node{Name: name, Kids: kids} }

// tree is a list of nodes as the tables write it.
func tree(l ...api.Node) []api.Node { return l }

// same tells whether two trees are the same; nil and empty lists are.
func same(a, b []api.Node) bool {
	return slices.EqualFunc(a, b, func(x, y api.Node) bool {
		return x.Name == y.Name && x.Text == y.Text && slices.Equal(x.Attrs, y.Attrs) && same(x.Kids, y.Kids)
	})
}

type row struct {
	in   string
	want []api.Node
}

func askRows(t *testing.T, rows []row) {
	t.Helper()
	for _, r := range rows {
		ask(t, r.in, toks(r.in), r.want)
	}
}

func ask(t *testing.T, what string, l []api.Token, want []api.Node) {
	t.Helper()
	if got, e := Build(l); e != api.OK || !same(got, want) {
		t.Errorf("Build(%s) is\n%+v, %d, not\n%+v", what, got, e, want)
	}
}

// askCap asks whether a list is too much. What stands beside the error is
// nothing.
func askCap(t *testing.T, what string, l []api.Token, want api.Errno) {
	t.Helper()
	got, e := Build(l)
	if e != want || e != api.OK && len(got) > 0 {
		t.Errorf("Build(%s) is %d nodes, %d, not %d", what, len(got), e, want)
	}
}

func TestNames(t *testing.T) {
	for _, c := range []struct {
		what  string
		call  func(string) bool
		those []string
	}{{"Void", Void, strings.Fields(voids)}, {"Block", Block, strings.Fields(blocks)}} {
		others := strings.Fields(voids + " " + blocks + " a b span td dt dd tr h0 h7 h h10 hgroup title script keygen frame command bgsound center dir menu body html figcaption Br BR P Div LI")
		for _, name := range others {
			if got := c.call(name); got != slices.Contains(c.those, name) {
				t.Errorf("%s(%q) is %v", c.what, name, got)
			}
		}
		for _, name := range []string{"", " ", "\x00", "\xff", " p", "p ", "br ", "p br", "<p>"} {
			if c.call(name) {
				t.Errorf("%s(%q) is true", c.what, name)
			}
		}
	}
}

func TestExamples(t *testing.T) {
	askRows(t, []row{
		{"<p a <div b /p c", tree(elem("p", text("a")), elem("div", text("b"), elem("p"), text("c")))},
		{"<ul <li a <li b /ul", tree(elem("ul", elem("li", text("a")), elem("li", text("b"))))},
		{"<b <p a /b c", tree(elem("b", elem("p", text("a"))), text("c"))},
	})
}

func TestTexts(t *testing.T) {
	askRows(t, []row{
		{"", nil},
		{"''", nil},
		{"'' ''", nil},
		{"a", tree(text("a"))},
		{"a b", tree(text("ab"))},
		{"'' a '' b ''", tree(text("ab"))},
		{"a !x b", tree(text("ab"))},
		{"!x", nil},
		{"a /b c", tree(text("ac"))},
		{"a <b b c /b d e", tree(text("a"), elem("b", text("bc")), text("de"))},
		{"a <b '' /b d", tree(text("a"), elem("b"), text("d"))},
		{"a <br b", tree(text("a"), elem("br"), text("b"))},
		{"<b a /i b !x c", tree(elem("b", text("abc")))},
		{"<p a <p b", tree(elem("p", text("a")), elem("p", text("b")))},
	})
}

func TestElements(t *testing.T) {
	askRows(t, []row{
		{"<b", tree(elem("b"))},
		{"<b <i", tree(elem("b", elem("i")))},
		{"<b /b <i", tree(elem("b"), elem("i"))},
		{"<b <i a /b b", tree(elem("b", elem("i", text("a"))), text("b"))},
		{"<b <b /b a", tree(elem("b", elem("b"), text("a")))},
		{"<b <i <b <u /b a /b c", tree(elem("b", elem("i", elem("b", elem("u")), text("a"))), text("c"))},
		{"<b <i /u a", tree(elem("b", elem("i", text("a"))))},
		{"<b /b /b a", tree(elem("b"), text("a"))},
		{"<B /b a", tree(elem("B", text("a")))},
		{"<b <BR a", tree(elem("b", elem("BR", text("a"))))},
	})
	for _, name := range strings.Fields(voids) {
		askRows(t, []row{
			{"<" + name + " a", tree(elem(name), text("a"))},
			{"<b <" + name + " <" + name + " a", tree(elem("b", elem(name), elem(name), text("a")))},
		})
	}
}

func TestBlocksCloseP(t *testing.T) {
	for _, name := range strings.Fields(blocks) {
		within := elem(name, text("b"))
		then := tree(within)
		if name == "hr" {
			then = tree(elem("hr"), text("b"))
		}
		askRows(t, []row{
			{"<p a <" + name + " b", append(tree(elem("p", text("a"))), then...)},
			{"<p <b <i a <" + name + " b", append(tree(elem("p", elem("b", elem("i", text("a"))))), then...)},
			{"<u <p <b <" + name + " b", tree(elem("u", append(tree(elem("p", elem("b"))), then...)...))},
			{"<b a <" + name + " b", tree(elem("b", append(tree(text("a")), then...)...))},
		})
	}
	askRows(t, []row{
		{"<p <b <span <td <a <object c", tree(elem("p", elem("b", elem("span", elem("td", elem("a", elem("object", text("c"))))))))},
		{"<p <br <img a", tree(elem("p", elem("br"), elem("img"), text("a")))},
		{"<p <P <DIV a", tree(elem("p", elem("P", elem("DIV", text("a")))))},
		{"<div <div <pre a", tree(elem("div", elem("div", elem("pre", text("a")))))},
		{"<div <p <b <p a", tree(elem("div", elem("p", elem("b")), elem("p", text("a"))))},
		{"<p a /div b", tree(elem("p", text("ab")))},
	})
}

func TestListItems(t *testing.T) {
	askRows(t, []row{
		{"<li a <li b", tree(elem("li", text("a")), elem("li", text("b")))},
		{"<li <b a <li b", tree(elem("li", elem("b", text("a"))), elem("li", text("b")))},
		{"<li <div a <li b", tree(elem("li", elem("div", text("a"))), elem("li", text("b")))},
		{"<li <p a <li b", tree(elem("li", elem("p", text("a"))), elem("li", text("b")))},
		{"<ul <li <ul <li a /ul b <li c", tree(elem("ul", elem("li", elem("ul", elem("li", text("a"))), text("b")), elem("li", text("c"))))},
		{"<ol <li <ol <li a <li b", tree(elem("ol", elem("li", elem("ol", elem("li", text("a")), elem("li", text("b"))))))},
		{"<li <ul <b <li a", tree(elem("li", elem("ul", elem("b", elem("li", text("a"))))))},
		{"<li <ol <li a", tree(elem("li", elem("ol", elem("li", text("a")))))},
		{"<li <dl <li a", tree(elem("li", elem("dl")), elem("li", text("a")))},
		{"<li <UL <li a", tree(elem("li", elem("UL")), elem("li", text("a")))},
		{"<LI <li <LI a", tree(elem("LI", elem("li", elem("LI", text("a")))))},
		{"<li <ul a /ul <li b", tree(elem("li", elem("ul", text("a"))), elem("li", text("b")))},
		{"<p <ul <li a", tree(elem("p"), elem("ul", elem("li", text("a"))))},
		// Of a p within a li, and a li within, the p goes first, then the li.
		{"<ul <li <b <p <i <li a", tree(elem("ul", elem("li", elem("b", elem("p", elem("i")))), elem("li", text("a"))))},
		{"<li <dt a <dt b", tree(elem("li", elem("dt", text("a"), elem("dt", text("b")))))},
	})
}

func TestEnds(t *testing.T) {
	askRows(t, []row{
		{"/p", tree(elem("p"))},
		{"a /p b", tree(text("a"), elem("p"), text("b"))},
		{"<b a /p b", tree(elem("b", text("a"), elem("p"), text("b")))},
		{"<p a /p b /p", tree(elem("p", text("a")), text("b"), elem("p"))},
		{"<div <p <b /p a", tree(elem("div", elem("p", elem("b")), text("a")))},
		{"/br", tree(elem("br"))},
		{"<p a /br b", tree(elem("p", text("a"), elem("br"), text("b")))},
		{"/hr /img /li /ul /div /b /P /BR a", tree(text("a"))},
		{"<li <p <b /li a", tree(elem("li", elem("p", elem("b"))), text("a"))},
		{"<ul <li a /ul b", tree(elem("ul", elem("li", text("a"))), text("b"))},
		{"<br /br /br a", tree(elem("br"), elem("br"), elem("br"), text("a"))},
	})
}

func TestOtherTokens(t *testing.T) {
	for _, kind := range []int{api.TComment, 0, -1, 5, 6, 1 << 40, -1 << 63} {
		one := api.Token{Kind: kind, Name: "p", Attrs: []api.Attr{{Name: "a"}}, Text: "x"}
		ask(t, "kind "+strconv.Itoa(kind), []api.Token{one, toks("a")[0], one, toks("b")[0], one}, tree(text("ab")))
	}
}

// TestFieldsThatDoNotCount: of a token those count alone that its kind has.
func TestFieldsThatDoNotCount(t *testing.T) {
	attrs := []api.Attr{{Name: "a", Value: "1"}}
	l := []api.Token{
		{Kind: api.TStart, Name: "b", Closed: true, Text: "x"},
		{Kind: api.TText, Name: "p", Attrs: attrs, Closed: true, Text: "y"},
		{Kind: api.TStart, Name: "br", Closed: true},
		{Kind: api.TEnd, Name: "p", Attrs: attrs, Closed: true, Text: "z"},
		{Kind: api.TEnd, Name: "br", Attrs: attrs, Closed: true, Text: "z"},
		{Kind: api.TEnd, Name: "b", Attrs: attrs, Closed: true, Text: "z"},
		{Kind: api.TStart, Name: "i", Closed: false},
		{Kind: api.TText, Text: "c"},
	}
	ask(t, "fields", l, tree(elem("b", text("y"), elem("br"), elem("p"), elem("br")), elem("i", text("c"))))
}

func TestAttrs(t *testing.T) {
	attrs := func(s ...string) []api.Attr {
		var out []api.Attr
		for i := 0; i < len(s); i += 2 {
			out = append(out, api.Attr{Name: s[i], Value: s[i+1]})
		}
		return out
	}
	for _, a := range [][]api.Attr{nil, {}, attrs("a", ""), attrs("a", "1", "b", "2"), attrs("b", "2", "a", "1", "b", "3"), attrs("", ""), attrs("A", "\xff", "style", "<&")} {
		for _, name := range []string{"p", "b", "br", "hr", "li", "X"} {
			l := []api.Token{{Kind: api.TStart, Name: name, Attrs: a}}
			ask(t, name, l, tree(api.Node{Name: name, Attrs: a}))
		}
	}
}

// TestNamelessTokens: the chapter says nothing of a start without a name; the
// answer is a tree of the theorem all the same.
func TestNamelessTokens(t *testing.T) {
	l := toks("a <p b /p c")
	l[1].Name, l[3].Name = "", ""
	ask(t, "nameless", l, tree(text("abc")))
}

// many are so many of each of the tokens, one list behind the other.
func many(n int, s string) []api.Token {
	return slices.Repeat(toks(s), n)
}

func TestMostOpen(t *testing.T) {
	at := many(api.MostDepth, "<b")
	for _, c := range []struct {
		more string
		want api.Errno
	}{
		{"", api.OK}, {"a", api.OK}, {"<br", api.OK}, {"<br <img <hr a /br", api.OK}, {"/p", api.ErrCap}, {"<b", api.ErrCap}, {"<p", api.ErrCap}, {"<b /b", api.ErrCap},
		{"/b <b", api.OK}, {"/b <b <b", api.ErrCap}, {"/b /p", api.OK}, {"/b <p <p <div", api.OK}, {"/b <p <b", api.ErrCap}, {"/b <p <hr", api.OK}, {"/b <li <li <li a", api.OK},
		{"/b <li <ul", api.ErrCap}, {"/b /b <ul <li <li", api.OK}, {"/b /b <ul <li <ul", api.ErrCap}, {"/i /u !x ''", api.OK}, {"<b /b /b /b", api.ErrCap}, {"/b /b <p <b <div", api.OK},
	} {
		askCap(t, "64 b, "+c.more, slices.Concat(at, toks(c.more)), c.want)
	}
	askCap(t, "63 b and a b", slices.Concat(at[1:], toks("<b")), api.OK)
	askCap(t, "65 b", many(65, "<b"), api.ErrCap)
	askCap(t, "many b, one behind the other", many(1999, "<b /b"), api.OK)
	askCap(t, "many b, too deep for a while", slices.Concat(many(65, "<b"), many(65, "/b")), api.ErrCap)
	got, _ := Build(append(at, toks("<br")...))
	if nodes, deep := Size(got); nodes != 65 || deep != 65 {
		t.Errorf("a br within 64 elements: %d, %d", nodes, deep)
	}
}

func TestMostNodes(t *testing.T) {
	for _, c := range []struct {
		what string
		l    []api.Token
		want api.Errno
	}{
		{"2000 br", many(2000, "<br"), api.OK},
		{"2001 br", many(2001, "<br"), api.ErrCap},
		{"2000 ends of br", many(2000, "/br"), api.OK},
		{"2001 ends of br", many(2001, "/br"), api.ErrCap},
		{"2000 ends of p", many(2000, "/p"), api.OK},
		{"2001 ends of p", many(2001, "/p"), api.ErrCap},
		{"2000 p", many(2000, "<p"), api.OK},
		{"2001 p", many(2001, "<p"), api.ErrCap},
		{"1000 p of text", many(1000, "<p a"), api.OK},
		{"1000 p of text, all ended", many(1000, "<p a /p"), api.OK},
		{"1000 p of text, text behind", append(many(1000, "<p a /p"), toks("a")...), api.ErrCap},
		{"1000 p of text, more text within", append(many(1000, "<p a"), toks("a !x b '' /i c")...), api.OK},
		{"1000 p of text, a br", append(many(1000, "<p a"), toks("<br")...), api.ErrCap},
		{"2000 nodes, and nothing", append(many(2000, "<br"), toks("'' '' /b !x")...), api.OK},
		{"2000 nodes, a text", append(many(2000, "<br"), toks("a")...), api.ErrCap},
		{"2000 nodes, an end of p", append(many(2000, "<br"), toks("/p")...), api.ErrCap},
		{"many texts", many(5000, "a"), api.OK},
		{"many notes", many(5000, "!a"), api.OK},
		{"many ends", many(5000, "/b /hr"), api.OK},
	} {
		askCap(t, c.what, c.l, c.want)
	}
	if got, e := Build(many(1000, "<p a")); e != api.OK || len(got) != 1000 || !same(got[999:], tree(elem("p", text("a")))) {
		t.Errorf("1000 p of a text: %d, %d", len(got), e)
	}
}

func TestText(t *testing.T) {
	for _, c := range []struct {
		l    []api.Node
		want string
	}{
		{nil, ""}, {tree(), ""}, {tree(text("a")), "a"}, {tree(text("a"), text("b"), text(""), text("c")), "abc"}, {tree(elem("b")), ""},
		{tree(text("a"), elem("p", text("b"), elem("br"), elem("i", elem("u", text("c")), text("d"))), text("e")), "abcde"},
		{tree(elem("script", text("<x>"))), "<x>"}, {tree(text("\xff\x00")), "\xff\x00"},
		{tree(api.Node{Name: "a", Attrs: []api.Attr{{Name: "b", Value: "c"}}}), ""},
		// Trees that were not built: each node's own Text, ahead of what is within.
		{tree(api.Node{Name: "b", Text: "x"}), "x"}, {tree(api.Node{Name: "br", Text: "x"}, api.Node{Name: "p", Text: "y"}), "xy"},
		{tree(api.Node{Name: "a", Text: "b", Kids: tree(text("c"))}), "bc"},
		{tree(api.Node{Text: "b", Kids: tree(text("c"))}), "bc"}, {tree(api.Node{Text: "t", Kids: tree(api.Node{Name: "b", Text: "x"})}), "tx"},
		{tree(text("a"), api.Node{Name: "b", Text: "x", Kids: tree(text("y"), api.Node{Name: "i", Text: "z"})}, text("c")), "axyzc"},
		{tree(api.Node{Name: "b", Attrs: []api.Attr{{Name: "c", Value: "d"}}, Kids: tree(api.Node{Name: "i", Text: "\xff"}, elem("u"))}), "\xff"},
	} {
		if got := Text(c.l); got != c.want {
			t.Errorf("Text(%+v) is %q, not %q", c.l, got, c.want)
		}
	}
}

func TestSize(t *testing.T) {
	for _, c := range []struct {
		l           []api.Node
		nodes, deep int
	}{
		{nil, 0, 0}, {tree(), 0, 0}, {tree(text("a")), 1, 0}, {tree(text(""), text("")), 2, 0}, {tree(elem("b")), 1, 1}, {tree(elem("b"), elem("br")), 2, 1},
		{tree(elem("b", text("a"))), 2, 1}, {tree(elem("b", elem("i"))), 2, 2}, {tree(elem("b", elem("i", text("a"))), elem("b")), 4, 2},
		{tree(elem("p", text("a"), elem("b", text("c"))), elem("img")), 5, 2},
		{tree(elem("a"), elem("b", elem("c", elem("d")), elem("e")), text("f"), elem("g", elem("h"))), 8, 3},
		// Trees that are none: a node without a Name is no element.
		{tree(api.Node{Kids: tree(elem("b"))}), 2, 1},
		{tree(api.Node{Kids: tree(text("b"))}), 2, 0},
	} {
		if nodes, deep := Size(c.l); nodes != c.nodes || deep != c.deep {
			t.Errorf("Size(%+v) is %d, %d, not %d, %d", c.l, nodes, deep, c.nodes, c.deep)
		}
	}
}

// TestDeepTrees: as deep as R7 has it, and deeper and larger than one that is
// built.
func TestDeepTrees(t *testing.T) {
	l := tree(text("a"))
	for range 1000 {
		l = tree(elem("b", l...), text("c"))
	}
	nodes, deep := Size(l)
	if nodes != 2001 || deep != 1000 || Text(l) != "a"+strings.Repeat("c", 1000) {
		t.Errorf("a deep tree: %d, %d", nodes, deep)
	}
	l = slices.Repeat(tree(elem("b", text("a"))), 100000)
	if nodes, deep = Size(l); nodes != 200000 || deep != 1 || Text(l) != strings.Repeat("a", 100000) {
		t.Errorf("a wide tree: %d, %d", nodes, deep)
	}
}

// TestInputsStay: what is handed in is the same behind each call.
func TestInputsStay(t *testing.T) {
	make1 := func() []api.Token {
		l := toks("a b <p c <li d <li /p <br /br /ul !x")
		l[2].Attrs = append(make([]api.Attr, 0, 4), api.Attr{Name: "a", Value: "1"})
		return l
	}
	l := make1()
	built, _ := Build(l)
	built[1].Attrs[0].Value = "2"
	_ = append(built[1].Attrs, api.Attr{Name: "x"})
	if !reflect.DeepEqual(l, make1()) || len(l[2].Attrs[:2][1].Name) > 0 {
		t.Errorf("Build changes its tokens: %+v", l)
	}
	one, two := tree(elem("p", text("a"))), tree(elem("p", text("a")))
	Text(one)
	Size(one)
	if !same(one, two) {
		t.Errorf("Text or Size change a tree: %+v", one)
	}
}

// TestAnswersAreNew: nothing that is told shares a byte with what was handed
// in, nor one list's place with another.
func TestAnswersAreNew(t *testing.T) {
	b := []byte("p a v x y")
	part := func(i int) string { return unsafe.String(&b[2*i], 1) }
	attrs := []api.Attr{{Name: part(1), Value: part(2)}}
	l := []api.Token{{Kind: api.TText, Text: part(3)}, {Kind: api.TStart, Name: part(0), Attrs: attrs}, {Kind: api.TText, Text: part(3)}, {Kind: api.TText, Text: part(4)}, {Kind: api.TStart, Name: part(0), Attrs: attrs}}
	got, _ := Build(l)
	all := Text(got)
	p := api.Node{Name: "p", Attrs: []api.Attr{{Name: "a", Value: "v"}}}
	first := p
	first.Kids = tree(text("xy"))
	want := tree(text("x"), first, p)
	for i := range b {
		b[i] = 'z'
	}
	attrs[0].Value = "z"
	if !same(got, want) || all != "xxy" {
		t.Errorf("the tree shares what was handed in: %+v, %q", got, all)
	}
	one, two := Text(tree(api.Node{Text: part(0)})), Text(tree(api.Node{Name: "b", Text: part(0)}))
	b[0] = 'y'
	if one != "z" || two != "z" {
		t.Error("Text shares a text")
	}
	got[1].Attrs[0].Name = "w"
	_ = append(got[1].Kids, text("w"))
	_ = append(got[1].Attrs, api.Attr{Name: "w"})
	if !same(got[2:], want[2:]) {
		t.Errorf("two nodes share a list: %+v", got)
	}
	checkLists(t, mustBuild(t, "<ul <li <b a /b <i /li <li <b a <u c /u <u"))
}

func mustBuild(t *testing.T, s string) []api.Node {
	l, e := Build(toks(s))
	if e != api.OK {
		t.Fatal(s, e)
	}
	return l
}

// checkLists adds to every list of a tree, and asks whether another one has
// what was added.
func checkLists(t *testing.T, l []api.Node) {
	before := flat(l)
	var add func(l []api.Node)
	add = func(l []api.Node) {
		for i := range l {
			add(l[i].Kids)
		}
		room := l[:cap(l)]
		for i := len(l); i < len(room); i++ {
			room[i] = elem("added")
		}
	}
	add(l)
	if after := flat(l); !slices.Equal(before, after) {
		t.Errorf("lists share their room: %q", after)
	}
}

func TestLongLists(t *testing.T) {
	const n = 1 << 18
	got, e := Build(slices.Concat(toks("<b"), many(n, "abcd /i !x")))
	if e != api.OK || len(got) != 1 || Text(got) != strings.Repeat("abcd", n) || len(got[0].Kids) != 1 {
		t.Errorf("a text of many tokens: %d", e)
	}
	got, e = Build(slices.Concat(many(api.MostDepth, "<b"), many(n, "/i ''")))
	if e != api.OK || len(got) != 1 {
		t.Errorf("many ends within a deep tree: %d", e)
	}
	askCap(t, "too many", many(n, "<p <li <ul a"), api.ErrCap)
	askCap(t, "too deep", many(n, "<ul <li"), api.ErrCap)
}
