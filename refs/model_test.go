package refs

import (
	"regexp"
	"strconv"
	"strings"
	"testing"
)

// What follows is the chapter's section Words as an expression, which finds
// the references of a text from its front on, none within another.

// model is the chapter's words, made once.
type model struct {
	names map[string]rune
	ref   *regexp.Regexp
}

func newModel(t testing.TB) *model {
	m := &model{names: names(t)}
	var all []string
	for name := range m.names {
		all = append(all, name)
	}
	m.ref = regexp.MustCompile("&(?:" + strings.Join(all, "|") + "|#[0-9]{1,7}|#[xX][0-9a-fA-F]{1,6});")
	return m
}

// stands is what a reference stands for.
func (m *model) stands(ref string) string {
	within := ref[1 : len(ref)-1]
	if r, is := m.names[within]; is {
		return string(r)
	}
	n := int64(0)
	if within[1] == 'x' || within[1] == 'X' {
		n, _ = strconv.ParseInt(within[2:], 16, 64)
	} else {
		n, _ = strconv.ParseInt(within[1:], 10, 64)
	}
	if n == 0 || n == 13 || n >= 55296 && n < 57344 || n > 1114111 {
		return "\uFFFD"
	}
	return string(rune(n))
}

func (m *model) resolve(s string) string { return m.ref.ReplaceAllStringFunc(s, m.stands) }

func (m *model) escape(s string, quote bool) string {
	s = strings.ReplaceAll(s, "&", "&amp;")
	s = strings.ReplaceAll(s, "<", "&lt;")
	s = strings.ReplaceAll(s, ">", "&gt;")
	s = strings.ReplaceAll(s, "\xc2\xa0", "&nbsp;")
	if quote {
		s = strings.ReplaceAll(s, `"`, "&quot;")
	}
	return s
}

// check holds all calls at a text against the chapter's words, and asks P2.4.
func (m *model) check(t *testing.T, s string) {
	if got, want := Resolve(s), m.resolve(s); got != want {
		t.Fatalf("Resolve(%q) is %q, not %q", s, got, want)
	}
	if !strings.Contains(s, "&") && Resolve(s) != s {
		t.Fatalf("Resolve(%q) is %q", s, Resolve(s))
	}
	r, is := m.names[s]
	want := ""
	if is {
		want = string(r)
	}
	if got, gotIs := Named(s); got != want || gotIs != is {
		t.Fatalf("Named(%q) is %q, %v", s, got, gotIs)
	}
	m.checkEscape(t, s, false)
	m.checkEscape(t, s, true)
}

func (m *model) checkEscape(t *testing.T, s string, quote bool) {
	e := Escape(s, quote)
	if want := m.escape(s, quote); e != want {
		t.Fatalf("Escape(%q, %v) is %q, not %q", s, quote, e, want)
	}
	if back := Resolve(e); back != s {
		t.Fatalf("Escape(%q, %v) is %q, and resolved %q", s, quote, e, back)
	}
	if strings.ContainsAny(e, "<>") || quote && strings.Contains(e, `"`) {
		t.Fatalf("Escape(%q, %v) is %q", s, quote, e)
	}
	if bare := m.ref.ReplaceAllString(e, ""); strings.Contains(bare, "&") {
		t.Fatalf("Escape(%q, %v) is %q, with a & of no reference", s, quote, e)
	}
}

// checkAll checks all texts that are s and at most so many pieces more.
func (m *model) checkAll(t *testing.T, s string, more int, of []string) {
	m.check(t, s)
	if more == 0 {
		return
	}
	for _, piece := range of {
		m.checkAll(t, s+piece, more-1, of)
	}
}

func TestAllShortTexts(t *testing.T) {
	m := newModel(t)
	m.checkAll(t, "", 6, strings.Split("&;#x0lt", ""))
	m.checkAll(t, "", 5, strings.Split("&;#X9afG", ""))
	m.checkAll(t, "", 4, []string{"&", ";", "#", "<", ">", `"`, "'", "\xc2", "\xa0", "\xe2", "\x00", "\r", "a"})
	m.checkAll(t, "", 5, []string{"&", ";", "#", "x", "X", "lt", "amp", "0000", "13", "d800", "10FFFF", "1114112"})
}

// TestAllBytes: every byte at every place of a reference, instead of the one
// there, and beside it.
func TestAllBytes(t *testing.T) {
	m := newModel(t)
	for _, ref := range []string{"&amp;", "&hellip;", "&#7;", "&#1114111;", "&#x7;", "&#X10fFfF;"} {
		for i := range len(ref) + 1 {
			for b := range 256 {
				c := string([]byte{byte(b)})
				m.check(t, ref[:i]+c+ref[i:])
				if i < len(ref) {
					m.check(t, ref[:i]+c+ref[i+1:])
					m.check(t, "é"+ref+ref[:i]+c+ref[i+1:]+ref)
				}
			}
		}
	}
}

func FuzzTexts(f *testing.F) {
	for _, s := range []string{"", "a&lt;b&#65;&#x41;&no;&", "&amp;lt;", "&#0;&#xD800;&#x110000;", "a<\"b\"&>\u00a0", "\xc2\xc2\xa0", "euro"} {
		f.Add(s)
	}
	m := newModel(f)
	f.Fuzz(m.check)
}
