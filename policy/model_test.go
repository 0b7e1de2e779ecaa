package policy

import (
	"fmt"
	"regexp"
	"slices"
	"strings"
	"testing"

	"verso/api"
)

// What follows is the chapter's sections Words and Promises: what may stand in
// a list as an expression, and a text as one of the whole.

// model is the chapter's words, made once.
type model struct {
	word, neverElem, neverAttr, neverScheme, text *regexp.Regexp
}

func newModel() *model {
	list := func(word string) string { return `((?:` + word + ` [^\n]*\n)*)` }
	return &model{
		word:        regexp.MustCompile(`^[a-z][a-z0-9-]{0,31}$`),
		neverElem:   regexp.MustCompile(`^(?:script|style|xmp|iframe|noembed|noframes|plaintext|textarea|title|base|embed|form|input|link|math|meta|object|param|select|svg|template|noscript|frame|frameset)$`),
		neverAttr:   regexp.MustCompile(`^(?:on.*|srcdoc|formaction|style)$`),
		neverScheme: regexp.MustCompile(`^(?:javascript|data|vbscript)$`),
		text:        regexp.MustCompile(`^epoch ([1-9][0-9]{0,6})\n` + list("elem") + list("attr") + list("scheme") + list("class") + list("prop") + `caps ([1-9][0-9]{0,6}) ([1-9][0-9]{0,6}) ([1-9][0-9]{0,6})\n$`),
	}
}

func (m *model) isAttr(s string, elems []string) bool {
	for _, name := range append([]string{"*"}, elems...) {
		if word, is := strings.CutPrefix(s, name+"."); is && m.word.MatchString(word) && !m.neverAttr.MatchString(word) {
			return true
		}
	}
	return false
}

func (m *model) right(p api.Policy) bool {
	for _, list := range [][]string{p.Elems, p.Attrs, p.Schemes, p.Classes, p.Props} {
		once := slices.Compact(slices.Sorted(slices.Values(list)))
		if len(list) > 64 || !slices.Equal(once, list) {
			return false
		}
	}
	for _, s := range slices.Concat(p.Elems, p.Schemes, p.Classes, p.Props) {
		if !m.word.MatchString(s) {
			return false
		}
	}
	if slices.ContainsFunc(p.Elems, m.neverElem.MatchString) || slices.ContainsFunc(p.Schemes, m.neverScheme.MatchString) {
		return false
	}
	if slices.Contains(p.Elems, "li") && !(slices.Contains(p.Elems, "ul") && slices.Contains(p.Elems, "ol")) {
		return false
	}
	if slices.ContainsFunc(p.Attrs, func(s string) bool { return !m.isAttr(s, p.Elems) }) {
		return false
	}
	between := func(n, most int) bool { return n > 0 && n <= most }
	return between(p.Epoch, 1000000) && between(p.Depth, 64) && between(p.Nodes, 2000) && between(p.Bytes, 16384)
}

func (m *model) read(s string) (api.Policy, bool) {
	parts := m.text.FindStringSubmatch(s)
	if parts == nil {
		return api.Policy{}, false
	}
	var p api.Policy
	for i, at := range []*[]string{&p.Elems, &p.Attrs, &p.Schemes, &p.Classes, &p.Props} {
		for _, line := range strings.Split(parts[i+2], "\n") {
			if line != "" {
				*at = append(*at, line[strings.Index(line, " ")+1:])
			}
		}
	}
	fmt.Sscan(parts[1]+" "+parts[7]+" "+parts[8]+" "+parts[9], &p.Epoch, &p.Depth, &p.Nodes, &p.Bytes)
	if !m.right(p) {
		return api.Policy{}, false
	}
	return p, true
}

func subset(list, of []string) bool {
	return !slices.ContainsFunc(list, func(s string) bool { return !slices.Contains(of, s) })
}

func modelStricter(p, q api.Policy) bool {
	for _, s := range p.Attrs {
		all := "*"
		if parts := strings.SplitN(s, ".", 2); len(parts) == 2 {
			all = "*." + parts[1]
		}
		if !slices.Contains(q.Attrs, s) && !slices.Contains(q.Attrs, all) {
			return false
		}
	}
	return subset(p.Elems, q.Elems) && subset(p.Schemes, q.Schemes) && subset(p.Classes, q.Classes) && subset(p.Props, q.Props) &&
		p.Depth <= q.Depth && p.Nodes <= q.Nodes && p.Bytes <= q.Bytes
}

func modelAttr(p api.Policy, elem, attr string) bool {
	return subset([]string{elem}, p.Elems) && (subset([]string{"*." + attr}, p.Attrs) || subset([]string{elem + "." + attr}, p.Attrs))
}

// checkPolicy holds the calls at one policy against the chapter's words, and
// asks that Text and Read undo one another.
func (m *model) checkPolicy(t *testing.T, p api.Policy) {
	t.Helper()
	right := m.right(p)
	if got := Right(p); got != right {
		t.Fatalf("Right(%+v) is %v", p, got)
	}
	s, e := Text(p)
	if !right {
		if s != "" || e != api.ErrForm {
			t.Fatalf("Text(%+v) is %q, %v", p, s, e)
		}
	} else if s != loose(p) || e != api.OK {
		t.Fatalf("Text(%+v) is %q, %v", p, s, e)
	}
	m.checkText(t, loose(p))
	if q, e := Read(s); right && (e != api.OK || !same(p, q)) {
		t.Fatalf("Read(%q) is %+v, %v", s, q, e)
	}
	if !Stricter(p, p) {
		t.Fatalf("%+v is not stricter than itself", p)
	}
}

// checkText holds Read at a text against the chapter's words.
func (m *model) checkText(t *testing.T, s string) {
	t.Helper()
	want, is := m.read(s)
	got, e := Read(s)
	if is != (e == api.OK) || !is && e != api.ErrForm || !same(got, want) {
		t.Fatalf("Read(%q) is %+v, %v", s, got, e)
	}
	if again, e := Text(got); is && (again != s || e != api.OK) {
		t.Fatalf("Text of what is read of %q is %q, %v", s, again, e)
	}
}

// checkPair holds Stricter against the chapter's words, and asks, of policies
// that may be, that the other one lets what the stricter one does.
func checkPair(t *testing.T, p, q api.Policy) {
	t.Helper()
	got := Stricter(p, q)
	if want := modelStricter(p, q); got != want {
		t.Fatalf("Stricter(%+v, %+v) is %v", p, q, got)
	}
	if !got || !Right(p) || !Right(q) {
		return
	}
	for _, elem := range asked {
		if Elem(p, elem) && !Elem(q, elem) {
			t.Fatalf("%+v is stricter than %+v, which lets no %q", p, q, elem)
		}
		for _, attr := range asked {
			if Attr(p, elem, attr) && !Attr(q, elem, attr) {
				t.Fatalf("%+v is stricter than %+v, which lets no %q of %q", p, q, attr, elem)
			}
		}
	}
}

// asked are names of elements and of attributes.
var asked = []string{"", "*", "a", "b", "x", "y", "li", "ol", "ul", "x.y", ".", "A"}

// checkAsked holds Elem and Attr against the chapter's words.
func checkAsked(t *testing.T, p api.Policy) {
	t.Helper()
	for _, elem := range asked {
		if got, want := Elem(p, elem), subset([]string{elem}, p.Elems); got != want {
			t.Fatalf("Elem(%+v, %q) is %v", p, elem, got)
		}
		for _, attr := range asked {
			if got, want := Attr(p, elem, attr), modelAttr(p, elem, attr); got != want {
				t.Fatalf("Attr(%+v, %q, %q) is %v", p, elem, attr, got)
			}
		}
	}
}

// eachSubset tells all lists of some of those, in their order.
func eachSubset(of []string, tell func(list []string)) {
	for n := range 1 << len(of) {
		var list []string
		for i, s := range of {
			if n>>i&1 == 1 {
				list = append(list, s)
			}
		}
		tell(list)
	}
}

// family are policies of some elements and attributes, with one other list.
func family(elems, attrs, others []string) []api.Policy {
	var all []api.Policy
	eachSubset(elems, func(e []string) {
		eachSubset(attrs, func(a []string) {
			eachSubset(others, func(o []string) {
				all = append(all, api.Policy{Epoch: 1 + len(all), Elems: e, Attrs: a, Schemes: o, Depth: 1 + len(o), Nodes: 2, Bytes: 3})
			})
		})
	})
	return all
}

func TestAllOfAFamily(t *testing.T) {
	m := newModel()
	of := family([]string{"a", "b", "li", "ol", "ul"}, []string{"*.x", "a.x", "a.y", "b.x", "li.x"}, []string{"http"})
	for _, p := range of {
		m.checkPolicy(t, p)
		checkAsked(t, p)
	}
	for _, p := range of {
		for _, q := range of[:200] {
			checkPair(t, p, q)
			checkPair(t, q, p)
		}
	}
	// Those that may not be.
	of = family([]string{"a", "script", "*", "x.y"}, []string{"*", "a", "*.x", "a.x", "*.", "*.x.y", "a.x.y"}, []string{"data"})
	for _, p := range of {
		m.checkPolicy(t, p)
		checkAsked(t, p)
	}
	for _, p := range of[:200] {
		for _, q := range of {
			checkPair(t, p, q)
			checkPair(t, q, p)
		}
	}
}

// TestGoesOn: from p to q and from q to r, from p to r, of all of three.
func TestGoesOn(t *testing.T) {
	for _, of := range [][]api.Policy{
		family([]string{"a", "b"}, []string{"*.x", "a.x", "b.x"}, []string{"http"}),
		family(nil, []string{"*", "a", "*.x", "a.x", "*.x.y", "a.x.y", "*."}, nil),
		capsFamily(),
	} {
		var stricter [][]bool
		for _, p := range of {
			var row []bool
			for _, q := range of {
				checkPair(t, p, q)
				row = append(row, Stricter(p, q))
			}
			stricter = append(stricter, row)
		}
		for i, p := range of {
			for j, q := range of {
				for k, r := range of {
					if stricter[i][j] && stricter[j][k] && !stricter[i][k] {
						t.Fatalf("from %+v to %+v, and to %+v", p, q, r)
					}
				}
			}
		}
	}
}

// capsFamily are policies of all caps around the least and the most.
func capsFamily() []api.Policy {
	var all []api.Policy
	for _, depth := range []int{0, 1, 64, 65} {
		for _, nodes := range []int{0, 1, 2000, 2001} {
			for _, bytes := range []int{0, 1, 16384, 16385} {
				all = append(all, api.Policy{Epoch: 1 + len(all), Depth: depth, Nodes: nodes, Bytes: bytes})
			}
		}
	}
	return all
}

func TestAllCaps(t *testing.T) {
	m := newModel()
	for _, p := range capsFamily() {
		m.checkPolicy(t, p)
		for _, epoch := range []int{-1, 0, 1, 1000000, 1000001} {
			p.Epoch = epoch
			m.checkPolicy(t, p)
		}
	}
}

// TestAllShortLists: all lists of at most three of some texts, in each of the
// five places.
func TestAllShortLists(t *testing.T) {
	m := newModel()
	texts := []string{"", "a", "a-", "b", "li", "ol", "ul", "A", "*.a", "a.b", "data", "on", "*.on", "a.style", "form", "title"}
	for word := range listsOf(&api.Policy{}) {
		var all func(list []string)
		all = func(list []string) {
			p := full()
			p.Attrs = nil
			*listsOf(&p)[word] = list
			m.checkPolicy(t, p)
			if len(list) == 3 {
				return
			}
			for _, s := range texts {
				all(append(list[:len(list):len(list)], s))
			}
		}
		all(nil)
	}
}

// TestAllBytes: every byte at every place of some texts, instead of the one
// there, and beside it, and the text without it.
func TestAllBytes(t *testing.T) {
	m := newModel()
	for _, s := range []string{fullText, "epoch 1\ncaps 1 1 1\n", "epoch 10\nelem a\nattr *.x\nattr a.y\ncaps 10 64 100\n", "epoch 1000000\nscheme dat\nprop x-1\ncaps 64 2000 16384\n"} {
		m.checkText(t, s)
		for i := range len(s) + 1 {
			for b := range 256 {
				c := string([]byte{byte(b)})
				m.checkText(t, s[:i]+c+s[i:])
				if i < len(s) {
					m.checkText(t, s[:i]+c+s[i+1:])
				}
			}
			if i < len(s) {
				m.checkText(t, s[:i]+s[i+1:])
			}
		}
	}
}

// TestAllOrders: all texts of at most five of some lines.
func TestAllOrders(t *testing.T) {
	m := newModel()
	lines := []string{"epoch 1\n", "elem a\n", "elem b\n", "attr a.x\n", "scheme s\n", "class c\n", "prop p\n", "caps 1 2 3\n", "\n"}
	var all func(s string, more int)
	all = func(s string, more int) {
		m.checkText(t, s)
		if more == 0 {
			return
		}
		for _, line := range lines {
			all(s+line, more-1)
		}
	}
	all("", 5)
}

func FuzzTexts(f *testing.F) {
	for _, s := range []string{"", fullText, "epoch 1\ncaps 1 1 1\n", "epoch 03\ncaps 1 1 1\n", "epoch 1\nelem script\ncaps 1 1 1\n", "epoch 1\nattr *.onx\ncaps 1 1 1\n"} {
		f.Add(s, "epoch 2\nelem a\ncaps 2 2 2\n")
	}
	m := newModel()
	f.Fuzz(func(t *testing.T, s, other string) {
		m.checkText(t, s)
		p := anyPolicy(s)
		m.checkPolicy(t, p)
		checkAsked(t, p)
		checkPair(t, p, anyPolicy(other))
	})
}

// anyPolicy is one whose lists are those of a text's lines, in any order, and
// whose numbers are made of the lines' lengths.
func anyPolicy(s string) api.Policy {
	var p api.Policy
	for i, line := range strings.Split(s, "\n") {
		word, rest, _ := strings.Cut(line, " ")
		if at := listsOf(&p)[word]; at != nil {
			*at = append(*at, rest)
		}
		*[]*int{&p.Epoch, &p.Depth, &p.Nodes, &p.Bytes}[i%4] += len(line)
	}
	return p
}
