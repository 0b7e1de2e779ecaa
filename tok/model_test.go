package tok

import (
	"regexp"
	"strings"
	"testing"

	"verso/api"
	"verso/refs"
	"verso/utf"
)

// What follows is the chapter's promises as expressions, each of one part, and
// none of them looks at a byte by itself.

// model is the chapter's words, made once.
type model struct {
	note, nothing, tag, ended, name, given, value, raw, other *regexp.Regexp
}

// bl are the blanks, as an expression writes them.
const bl = `\t\n\f\r `

// notInNames are the bytes that no name has.
const notInNames = "\t\n\f\r />ABCDEFGHIJKLMNOPQRSTUVWXYZ"

func newModel() *model {
	must := func(s string) *regexp.Regexp { return regexp.MustCompile("(?s)" + s) }
	return &model{
		note:    must(`^<!--(.*?)(?:-->|\z)`),
		nothing: must(`^(?:</>|(?:<!|<\?|</[^a-zA-Z>])[^>]*(?:>|\z))`),
		tag:     must(`^<(/?)([a-zA-Z][^` + bl + `/>]*)`),
		ended:   must(`^[` + bl + `/]*>`),
		name:    must(`^[` + bl + `/]*([^` + bl + `/>][^` + bl + `/>=]*)`),
		given:   must(`^[` + bl + `]*=[` + bl + `]*`),
		value:   must(`^(?:"([^"]*)"|'([^']*)'|([^"'` + bl + `>][^` + bl + `>]*)|(>))`),
		raw:     must(`^(?i:script|style|xmp|iframe|noembed|noframes|plaintext|(textarea|title))$`),
		other:   must(`^<(?:[a-zA-Z!?]|/.)`),
	}
}

// attrs are those that s begins with, and what stands behind the tag's `>`.
func (m *model) attrs(s string) (list []api.Attr, closed bool, rest string, whole bool) {
	for {
		if end := m.ended.FindString(s); end != "" {
			return list, strings.HasSuffix(end, "/>"), s[len(end):], true
		}
		name := m.name.FindStringSubmatch(s)
		if name == nil {
			return nil, false, "", false
		}
		s = s[len(name[0]):]
		value := ""
		if given := m.given.FindString(s); given != "" {
			s = s[len(given):]
			v := m.value.FindStringSubmatch(s)
			if v == nil {
				return nil, false, "", false
			}
			value = v[1] + v[2] + v[3]
			s = s[len(v[0])-len(v[4]):]
		}
		list = append(list, api.Attr{Name: utf.Lower(name[1]), Value: refs.Resolve(value)})
	}
}

// firsts are those of each name the first ones.
func firsts(list []api.Attr) []api.Attr {
	var out []api.Attr
next:
	for _, a := range list {
		for _, b := range out {
			if a.Name == b.Name {
				continue next
			}
		}
		out = append(out, a)
	}
	return out
}

// within is what is text behind a start of a raw name.
func (m *model) within(s, name string) string {
	if name == "plaintext" {
		return s
	}
	lower := utf.Lower(s)
	for i := range len(s) {
		for _, last := range "\t\n\f\r />" {
			if strings.HasPrefix(lower[i:], "</"+name+string(last)) {
				return s[:i]
			}
		}
	}
	return s
}

func (m *model) tokens(s string) []api.Token {
	var out []api.Token
	for s != "" {
		if n := m.note.FindStringSubmatch(s); n != nil {
			out = append(out, api.Token{Kind: api.TComment, Text: n[1]})
			s = s[len(n[0]):]
			continue
		}
		if n := m.nothing.FindString(s); n != "" {
			s = s[len(n):]
			continue
		}
		tag := m.tag.FindStringSubmatch(s)
		if tag == nil {
			n := 1
			for n < len(s) && !m.other.MatchString(s[n:]) {
				n++
			}
			out = append(out, api.Token{Kind: api.TText, Text: refs.Resolve(s[:n])})
			s = s[n:]
			continue
		}
		name := utf.Lower(tag[2])
		attrs, closed, rest, whole := m.attrs(s[len(tag[0]):])
		if !whole {
			break
		}
		s = rest
		if tag[1] == "/" {
			out = append(out, api.Token{Kind: api.TEnd, Name: name})
			continue
		}
		out = append(out, api.Token{Kind: api.TStart, Name: name, Attrs: firsts(attrs), Closed: closed})
		if raw := m.raw.FindStringSubmatch(name); raw != nil {
			text := m.within(s, name)
			s = s[len(text):]
			if raw[1] != "" {
				text = refs.Resolve(text)
			}
			if text != "" {
				out = append(out, api.Token{Kind: api.TText, Text: text})
			}
		}
	}
	return out
}

// check holds both calls at a text against the chapter's words, and asks P3.5.
func (m *model) check(t *testing.T, s string) {
	got := Tokens(s)
	if want := m.tokens(s); !same(got, want) {
		t.Fatalf("Tokens(%q) is\n%+v, not\n%+v", s, got, want)
	}
	raw, counts := Raw(s)
	of := m.raw.FindStringSubmatch(s)
	if utf.Lower(s) != s {
		of = nil
	}
	if raw != (of != nil) || counts != (of != nil && of[1] != "") {
		t.Fatalf("Raw(%q) is %v, %v", s, raw, counts)
	}
	checkOne(t, s)
	checkNames(t, s, got)
}

// checkOne asks of a text that has no `<`, and of s escaped, that it is one
// token, or none.
func checkOne(t *testing.T, s string) {
	one := func(in, text string) {
		var want []api.Token
		if text != "" {
			want = []api.Token{{Kind: api.TText, Text: text}}
		}
		if got := Tokens(in); !same(got, want) {
			t.Fatalf("Tokens(%q) is %+v", in, got)
		}
	}
	if !strings.Contains(s, "<") {
		one(s, refs.Resolve(s))
	}
	one(refs.Escape(s, false), s)
	one(refs.Escape(s, true), s)
}

// checkNames asks what the theorem says of names, and what R1 says of fields.
func checkNames(t *testing.T, s string, l []api.Token) {
	for _, one := range l {
		tag := one.Kind == api.TStart || one.Kind == api.TEnd
		if tag == (one.Name == "") || tag && one.Text != "" || one.Kind != api.TStart && (one.Closed || len(one.Attrs) > 0) {
			t.Fatalf("Tokens(%q) has %+v", s, one)
		}
		met := map[string]bool{}
		for _, a := range one.Attrs {
			if met[a.Name] || a.Name == "" || strings.ContainsAny(a.Name, notInNames) {
				t.Fatalf("Tokens(%q) has the attribute %q", s, a.Name)
			}
			met[a.Name] = true
		}
		if strings.ContainsAny(one.Name, notInNames) {
			t.Fatalf("Tokens(%q) has the name %q", s, one.Name)
		}
	}
}

// checkAll checks all texts that are s and at most so many pieces more.
func (m *model) checkAll(t *testing.T, s string, more int, of []string) {
	m.check(t, s)
	if more == 0 {
		return
	}
	for _, piece := range of {
		m.checkAll(t, s+piece, more-1, of)
	}
}

func TestAllShortTexts(t *testing.T) {
	m := newModel()
	m.checkAll(t, "", 4, strings.Split("<>/!-?aA=\"' \n&;", ""))
	m.checkAll(t, "", 6, strings.Split("<>/!-a", ""))
}

func TestAllShortTags(t *testing.T) {
	m := newModel()
	m.checkAll(t, "<a ", 5, strings.Split("/>=\"' bB", ""))
	m.checkAll(t, "<a b", 5, strings.Split("/>='\n\"", ""))
	m.checkAll(t, "</a", 4, strings.Split("/>='\f\"b<", ""))
	m.checkAll(t, "<A B=", 4, []string{"/", ">", "=", "\"", "'", "\r", "b", "&lt;", "<", "\xff"})
}

func TestAllShortNotes(t *testing.T) {
	m := newModel()
	m.checkAll(t, "<!-", 6, strings.Split("<>-!a", ""))
	m.checkAll(t, "a<!--", 4, []string{"-->", "<!--", "--", ">", "&lt;", "</b>"})
}

func TestAllShortRawTexts(t *testing.T) {
	m := newModel()
	for _, name := range []string{"script", "style", "xmp", "iframe", "noembed", "noframes", "plaintext", "textarea", "title", "noscript", "p"} {
		of := []string{"</", name, strings.ToUpper(name), ">", "/", "\n", "&lt;", "<", "!--"}
		m.checkAll(t, "<"+name+">", 4, of)
		m.checkAll(t, "<"+strings.ToUpper(name)+"/>a", 2, of)
		m.checkAll(t, "<"+name+" a='>'>", 2, of)
		m.checkAll(t, "", 3, append(of, "<"+name+">"))
	}
}

// TestAllBytes: every byte at every place of a page, instead of the one there,
// and beside it.
func TestAllBytes(t *testing.T) {
	m := newModel()
	for _, page := range []string{
		"a<b c=1 d/>x</b>", "<b c = '1' D=\"2\"e>", "<!--a-->b", "<!a>b", "</>a</ b>c", "<title>&lt;</title>a", "<Xmp/>a</xmp >b",
	} {
		for i := range len(page) + 1 {
			for b := range 256 {
				c := string([]byte{byte(b)})
				m.check(t, page[:i]+c+page[i:])
				if i < len(page) {
					m.check(t, page[:i]+c+page[i+1:])
				}
			}
		}
	}
}

func FuzzTexts(f *testing.F) {
	for _, s := range []string{"", "a<b c=1 d/>x</B e><br/><!-- n --><?x?></>&amp;<3", "<p A=\"x>&lt;\" a=2 ='3' =b>", "<title>&lt;<b></titles></TITLE\n>", "<plaintext>a", "a < b </", "<script/>a&lt;</script", "<!-->a-->"} {
		f.Add(s)
	}
	m := newModel()
	f.Fuzz(m.check)
}
