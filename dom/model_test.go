package dom

import (
	"regexp"
	"slices"
	"strconv"
	"strings"
	"testing"

	"verso/api"
	"verso/tok"
)

// What follows is the chapter's promises over texts: the open elements are one
// text, in which what is closed is looked for as a part, and a tree is the list
// of what begins and ends in it.

// flat is a tree as what begins and ends in it: `<` and an element's name and
// attributes, `>` where it ends, `"` and a text.
func flat(l []api.Node) []string {
	var out []string
	for _, n := range l {
		if n.Name == "" {
			out = append(out, `"`+n.Text)
			if len(n.Attrs)+len(n.Kids) > 0 {
				out = append(out, "a text with more than a text")
			}
			continue
		}
		out = append(out, begin(n.Name, n.Attrs)+n.Text)
		out = append(out, flat(n.Kids)...)
		out = append(out, ">")
	}
	return out
}

func begin(name string, attrs []api.Attr) string {
	s := "<" + strconv.Quote(name)
	for _, a := range attrs {
		s += " " + strconv.Quote(a.Name) + strconv.Quote(a.Value)
	}
	return s
}

// model is a tree in the making.
type model struct {
	out    []string
	open   string // each with a `/` ahead
	nodes  int
	failed bool

	void, block, items *regexp.Regexp
}

func newModel() *model {
	one := func(names string) *regexp.Regexp {
		return regexp.MustCompile("^(" + strings.ReplaceAll(names, " ", "|") + ")$")
	}
	return &model{
		void: one(voids), block: one(blocks),
		items: regexp.MustCompile(`(?s)^(.*)/(li|ul|ol)(/.*)?$`),
	}
}

// around are the open elements that the innermost one of a name stands within.
func (m *model) around(name string) (string, bool) {
	at := strings.LastIndex(m.open+"/", "/"+name+"/")
	if at < 0 {
		return "", false
	}
	return m.open[:at], true
}

// leave closes elements until those alone are open.
func (m *model) leave(open string) {
	for range strings.Count(m.open, "/") - strings.Count(open, "/") {
		m.out = append(m.out, ">")
	}
	m.open = open
}

func (m *model) count() {
	if strings.Count(m.open, "/") > 64 || m.nodes > 2000 {
		m.failed = true
	}
}

func (m *model) text(s string) {
	if s == "" {
		return
	}
	if n := len(m.out); n > 0 && m.out[n-1][0] == '"' {
		m.out[n-1] += s
		return
	}
	m.out = append(m.out, `"`+s)
	m.nodes++
	m.count()
}

func (m *model) start(name string, attrs []api.Attr) {
	if open, ok := m.around("p"); ok && m.block.MatchString(name) {
		m.leave(open)
	}
	if of := m.items.FindStringSubmatch(m.open); of != nil && of[2] == "li" && name == "li" {
		m.leave(of[1])
	}
	m.out = append(m.out, begin(name, attrs))
	m.nodes++
	if m.void.MatchString(name) {
		m.out = append(m.out, ">")
	} else {
		m.open += "/" + name
	}
	m.count()
}

func (m *model) end(name string) {
	open, ok := m.around(name)
	switch {
	case ok && name != "":
		m.leave(open)
	case name == "p":
		m.start("p", nil)
		m.end("p")
	case name == "br":
		m.start("br", nil)
	}
}

func (m *model) take(t api.Token) {
	switch t.Kind {
	case 1:
		m.text(t.Text)
	case 2:
		m.start(t.Name, t.Attrs)
	case 3:
		m.end(t.Name)
	}
}

// clone is m, to go on from apart.
func (m *model) clone() *model {
	c := *m
	c.out = slices.Clone(m.out)
	return &c
}

// check holds Build at a list, of which m has taken all, against m; and asks
// P4.2 and P4.5 of what it tells.
func (m *model) check(t *testing.T, l []api.Token) {
	got, e := Build(l)
	if m.failed {
		if e != api.ErrCap || len(got) > 0 {
			t.Fatalf("Build(%+v) is %+v, %d", l, got, e)
		}
		return
	}
	whole := m.clone()
	whole.leave("")
	f := flat(got)
	if e != api.OK || !slices.Equal(f, whole.out) {
		t.Fatalf("Build(%+v) is\n%q, %d, not\n%q", l, f, e, whole.out)
	}
	checkSize(t, l, got, f)
	checkTree(t, l, got, nil)
	var all strings.Builder
	for _, one := range l {
		if one.Kind == api.TText {
			all.WriteString(one.Text)
		}
	}
	if s := Text(got); s != all.String() {
		t.Fatalf("Text of Build(%+v) is %q", l, s)
	}
}

// checkSize counts what begins in a tree, and how much of it is open.
func checkSize(t *testing.T, l []api.Token, got []api.Node, f []string) {
	var nodes, open, deep int
	for _, s := range f {
		switch s[0] {
		case '>':
			open--
			continue
		case '<':
			open++
		}
		deep = max(deep, open)
		nodes++
	}
	if n, d := Size(got); n != nodes || d != deep {
		t.Fatalf("Size of Build(%+v) is %d, %d", l, n, d)
	}
}

// checkTree asks what the theorem says of a tree's elements and texts. around
// are the names of the elements that it stands within, the innermost last.
func checkTree(t *testing.T, l []api.Token, got []api.Node, around []string) {
	bad := func(what string) { t.Fatalf("Build(%+v): %s", l, what) }
	for i, n := range got {
		switch {
		case len(around) > 0 && Void(around[len(around)-1]):
			bad("something within a void element")
		case n.Name == "" && n.Text == "":
			bad("an empty text")
		case n.Name == "" && i > 0 && got[i-1].Name == "":
			bad("two texts side by side")
		case n.Name != "" && Block(n.Name) && slices.Contains(around, "p"):
			bad("a block within a p")
		}
		for j := len(around) - 1; j >= 0 && n.Name == "li"; j-- {
			if around[j] == "li" {
				bad("a li within a li")
			}
			if around[j] == "ul" || around[j] == "ol" {
				break
			}
		}
		checkTree(t, l, n.Kids, append(around, n.Name))
	}
}

// checkAll checks all lists that are l, of which m has taken all, and at most
// so many tokens more.
func (m *model) checkAll(t *testing.T, l []api.Token, more int, of []api.Token) {
	m.check(t, l)
	if more == 0 || m.failed {
		return
	}
	for _, one := range of {
		next := m.clone()
		next.take(one)
		next.checkAll(t, append(slices.Clone(l), one), more-1, of)
	}
}

func checkFrom(t *testing.T, l []api.Token, more int, of string) {
	m := newModel()
	for _, one := range l {
		m.take(one)
	}
	m.checkAll(t, l, more, toks(of))
}

func TestAllShortLists(t *testing.T) {
	checkFrom(t, nil, 4, "<p <div <li <ul <ol <b <br <hr /p /div /li /ul /ol /b /br /hr a b '' !x")
	checkFrom(t, nil, 6, "<p <div <b /p /b a")
	checkFrom(t, nil, 6, "<li <ul <p /ul /li a")
	checkFrom(t, nil, 7, "<li <ol <b /b")
	for _, name := range strings.Fields(voids + " " + blocks + " span td title object") {
		checkFrom(t, nil, 3, "<"+name+" /"+name+" <p /p <li <ul a <br")
	}
}

// TestAllShortListsAtTheLimits: the same where few more nodes, or open
// elements, may be.
func TestAllShortListsAtTheLimits(t *testing.T) {
	const of = "<p <div <li <ul <b <br <hr /p /div /li /b /br a '' !x"
	for _, l := range [][]api.Token{
		many(61, "<b"), many(63, "<b"), many(64, "<b"), many(32, "<ul <li"), many(64, "<ul")[1:], append(many(62, "<div"), toks("<p <b")...),
	} {
		checkFrom(t, l, 3, of)
	}
	for _, l := range [][]api.Token{
		many(1998, "<br"), append(many(999, "<b a /b"), toks("<p")...), append(many(999, "<b a /b"), toks("<ul a")...), append(many(1996, "/p"), toks("<ul <li a")...), many(2000, "<p"),
	} {
		checkFrom(t, l, 2, of)
	}
	both := append(many(1936, "/br"), many(63, "<b")...)
	checkFrom(t, both, 2, of)
}

// spot is a node where it begins in a tree: how many nodes it stands within,
// and whether it has a Name and a Text.
type spot struct {
	in          int
	named, told bool
}

// allSpots hands on all lists that are l and at most so many spots more.
func allSpots(l []spot, more int, each func([]spot)) {
	each(l)
	if more == 0 {
		return
	}
	most := 0
	if len(l) > 0 {
		most = l[len(l)-1].in + 1
	}
	for in := range most + 1 {
		for kind := range 4 {
			allSpots(append(slices.Clone(l), spot{in, kind&1 > 0, kind&2 > 0}), more-1, each)
		}
	}
}

// ofSpots is the tree of spots; the first has the place at.
func ofSpots(l []spot, at int) []api.Node {
	var out []api.Node
	for i := 0; i < len(l); {
		end := i + 1
		for end < len(l) && l[end].in > l[i].in {
			end++
		}
		n := api.Node{Kids: ofSpots(l[i+1:end], at+i+1)}
		if l[i].named {
			n.Name = "b"
		}
		if l[i].told {
			n.Text = string(rune('0' + at + i))
		}
		out = append(out, n)
		i = end
	}
	return out
}

// TestAllSmallTrees: Text and Size of trees that need not be built, by spots:
// there a node's Text, and its depth, hang on no node's Kids.
func TestAllSmallTrees(t *testing.T) {
	allSpots(nil, 5, func(l []spot) {
		var texts string
		var deep int
		var around [6]int // how many elements a spot's node is, and stands within
		for i, r := range l {
			if r.in > 0 {
				around[r.in] = around[r.in-1]
			} else {
				around[0] = 0
			}
			if r.named {
				around[r.in]++
				deep = max(deep, around[r.in])
			}
			if r.told {
				texts += strconv.Itoa(i)
			}
		}
		of := ofSpots(l, 0)
		if s := Text(of); s != texts {
			t.Fatalf("Text(%+v) is %q, not %q", of, s, texts)
		}
		if nodes, d := Size(of); nodes != len(l) || d != deep {
			t.Fatalf("Size(%+v) is %d, %d, not %d, %d", of, nodes, d, len(l), deep)
		}
	})
}

// FuzzTexts asks of a page's tokens, and of a list of known ones, each told by
// a byte.
func FuzzTexts(f *testing.F) {
	for _, s := range []string{"", "<p>a<div>b</p>c", "<ul><li>a<li>b</ul>", "<b><p>a</b>c", "</p></br><hr/><li a=1 A=2><ol><li><p><li>", "<title><b></title>y<!-- x -->z</q>&lt;", "<x(/>\xff<a\xff></A\xb8></a\xff>b"} {
		f.Add(s)
	}
	f.Add(strings.Repeat("<p>a", 1000))
	f.Add(strings.Repeat("<b>", 65))
	of := toks("<p <div <li <ul <ol <b <br <hr /p /div /li /ul /ol /b /br /hr a b '' !x")
	f.Fuzz(func(t *testing.T, s string) {
		m := newModel()
		l := tok.Tokens(s)
		for _, one := range l {
			m.take(one)
		}
		m.check(t, l)
		m, l = newModel(), nil
		for i := range len(s) {
			one := of[int(s[i])%len(of)]
			m.take(one)
			l = append(l, one)
		}
		m.check(t, l)
	})
}
