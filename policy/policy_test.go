package policy

import (
	"fmt"
	"math"
	"reflect"
	"slices"
	"strings"
	"testing"
	"unsafe"

	"verso/api"
)

// The tests of ordinary inputs, and of the edges that the chapter names, say
// what they want one by one. Those in model_test.go hold the package against
// the chapter's words, at many policies and texts.

// least is a policy that lets nothing.
func least() api.Policy { return api.Policy{Epoch: 1, Depth: 1, Nodes: 1, Bytes: 1} }

// full is a policy with all lists.
func full() api.Policy {
	return api.Policy{
		Epoch: 7, Elems: []string{"a", "b", "li", "ol", "p", "ul"}, Attrs: []string{"*.class", "a.href", "li.value"}, Schemes: []string{"http", "https"},
		Classes: []string{"mention", "tag"}, Props: []string{"color", "text-align"}, Depth: 9, Nodes: 99, Bytes: 999,
	}
}

const fullText = "epoch 7\nelem a\nelem b\nelem li\nelem ol\nelem p\nelem ul\nattr *.class\nattr a.href\nattr li.value\nscheme http\nscheme https\nclass mention\nclass tag\nprop color\nprop text-align\ncaps 9 99 999\n"

// change is a policy with something done to it.
func change(p api.Policy, do func(p *api.Policy)) api.Policy {
	do(&p)
	return p
}

// the lists of a policy, by their words, for tests that ask all of them.
func listsOf(p *api.Policy) map[string]*[]string {
	return map[string]*[]string{"elem": &p.Elems, "attr": &p.Attrs, "scheme": &p.Schemes, "class": &p.Classes, "prop": &p.Props}
}

// numbered are n texts that rise, each with those ahead and behind around it.
func numbered(n int, ahead, behind string) []string {
	var out []string
	for i := range n {
		out = append(out, fmt.Sprintf("%s%04d%s", ahead, i, behind))
	}
	return out
}

// wantRight asks Right, and of a policy that may be its Text, read again; of
// one that may not be it asks for ErrForm.
func wantRight(t *testing.T, p api.Policy, want bool) {
	t.Helper()
	if got := Right(p); got != want {
		t.Errorf("Right(%+v) is %v", p, got)
	}
	s, e := Text(p)
	if !want {
		if s != "" || e != api.ErrForm {
			t.Errorf("Text(%+v) is %q, %v", p, s, e)
		}
		if q, e := Read(loose(p)); e != api.ErrForm || !same(q, api.Policy{}) {
			t.Errorf("Read(%q) is %+v, %v", loose(p), q, e)
		}
		return
	}
	if s != loose(p) || e != api.OK {
		t.Errorf("Text(%+v) is %q, %v", p, s, e)
	}
	if q, e := Read(s); e != api.OK || !same(q, p) {
		t.Errorf("Read(%q) is %+v, %v", s, q, e)
	}
}

// loose is what Text would tell of a policy, whether it may be or not.
func loose(p api.Policy) string {
	var out strings.Builder
	fmt.Fprintf(&out, "epoch %d\n", p.Epoch)
	for _, word := range []string{"elem", "attr", "scheme", "class", "prop"} {
		for _, s := range *listsOf(&p)[word] {
			fmt.Fprintf(&out, "%s %s\n", word, s)
		}
	}
	fmt.Fprintf(&out, "caps %d %d %d\n", p.Depth, p.Nodes, p.Bytes)
	return out.String()
}

// same tells whether policies are the same; an empty list is as one that is nil.
func same(p, q api.Policy) bool {
	for _, one := range []*api.Policy{&p, &q} {
		for _, list := range listsOf(one) {
			if len(*list) == 0 {
				*list = nil
			}
		}
	}
	return reflect.DeepEqual(p, q)
}

func TestText(t *testing.T) {
	if s, e := Text(full()); s != fullText || e != api.OK {
		t.Errorf("%q, %v", s, e)
	}
	if s, e := Text(least()); s != "epoch 1\ncaps 1 1 1\n" || e != api.OK {
		t.Errorf("%q, %v", s, e)
	}
	p := api.Policy{Epoch: 1000000, Elems: []string{}, Attrs: []string{"*.id"}, Props: []string{"a", "b"}, Depth: 64, Nodes: 2000, Bytes: 16384}
	if s, e := Text(p); s != "epoch 1000000\nattr *.id\nprop a\nprop b\ncaps 64 2000 16384\n" || e != api.OK {
		t.Errorf("%q, %v", s, e)
	}
	// The chapter's own.
	p = api.Policy{Epoch: 1, Elems: []string{"a", "p"}, Attrs: []string{"a.href"}, Schemes: []string{"https"}, Depth: 9, Nodes: 99, Bytes: 999}
	if s, e := Text(p); s != "epoch 1\nelem a\nelem p\nattr a.href\nscheme https\ncaps 9 99 999\n" || e != api.OK {
		t.Errorf("%q, %v", s, e)
	}
	wantRight(t, change(p, func(p *api.Policy) { p.Elems = []string{"a", "p", "script"} }), false)
}

func TestReadFull(t *testing.T) {
	if p, e := Read(fullText); e != api.OK || !reflect.DeepEqual(p, full()) {
		t.Errorf("%+v, %v", p, e)
	}
	if p, e := Read("epoch 1\ncaps 1 1 1\n"); e != api.OK || !same(p, least()) {
		t.Errorf("%+v, %v", p, e)
	}
}

func TestRightNumbers(t *testing.T) {
	wantRight(t, api.Policy{}, false)
	wantRight(t, least(), true)
	wantRight(t, full(), true)
	for _, c := range []struct {
		most int
		at   func(p *api.Policy) *int
	}{
		{1000000, func(p *api.Policy) *int { return &p.Epoch }},
		{64, func(p *api.Policy) *int { return &p.Depth }},
		{2000, func(p *api.Policy) *int { return &p.Nodes }},
		{16384, func(p *api.Policy) *int { return &p.Bytes }},
	} {
		for _, p := range []api.Policy{least(), full()} {
			for _, n := range []int{math.MinInt, -c.most, -2, -1, 0, 1, 2, 10, c.most - 1, c.most, c.most + 1, c.most * 10, 1 << 32, 1<<32 + 1, math.MaxInt} {
				*c.at(&p) = n
				wantRight(t, p, 1 <= n && n <= c.most)
			}
		}
	}
}

// notWords are texts that are no words.
var notWords = []string{
	"", " ", "A", "Aa", "aA", "0", "0a", "9", "-", "-a", "--", ".", "*", "_", "a_", "a_b", "a.", "a.b", ".a", "*.a", "a b", " a", "a ", "a\n", "\na", "a\nb", "a\t", "a\x00", "\x00",
	"a:", "a+b", "a*", "a/", "a;b", "a=b", "a>", "<a", "a\"", "a'", "a&", "a`", "a{", "a@", "a[", "`a", "{a", "é", "aé", "\xff", "a\xff", "a\u00a0", "ａ", "a٣", "\u212a", "ſ", "\xe1",
	strings.Repeat("a", 33), strings.Repeat("a", 1000), strings.Repeat("a", 32) + "A", "a" + strings.Repeat("-", 32), strings.Repeat("é", 16), strings.Repeat("a", 31) + "é",
}

// words are texts that are words, and none that is named elsewhere.
var words = []string{
	"a", "z", "q", "az", "za", "a0", "a9", "z09", "a-", "a--", "a-b", "h1", "x-y-z", "a-0", "a1b2", strings.Repeat("a", 31), strings.Repeat("z", 32), "a" + strings.Repeat("-", 31), "q" + strings.Repeat("9", 31),
}

func TestRightWords(t *testing.T) {
	for n := range 256 {
		b := string([]byte{byte(n)})
		small := 'a' <= n && n <= 'z'
		within := small || '0' <= n && n <= '9' || n == '-'
		if got := isWord(b); got != small {
			t.Errorf("%q as a word: %v", b, got)
		}
		for _, s := range []string{"q" + b, "q" + b + "q", "q-" + b, "q9" + b + "-"} {
			if got := isWord(s); got != within {
				t.Errorf("%q as a word: %v", s, got)
			}
		}
	}
	for word := range listsOf(&api.Policy{}) {
		ahead := ""
		if word == "attr" {
			ahead = "*."
		}
		put := func(s string) api.Policy {
			return change(least(), func(p *api.Policy) { *listsOf(p)[word] = []string{ahead + s} })
		}
		for _, s := range words {
			wantRight(t, put(s), true)
		}
		for _, s := range notWords {
			wantRight(t, put(s), false)
		}
	}
}

// TestRightLists: each list rises, and has at most 64 texts.
func TestRightLists(t *testing.T) {
	for word := range listsOf(&api.Policy{}) {
		ahead := "q"
		if word == "attr" {
			ahead = "*.q"
		}
		put := func(list ...string) api.Policy {
			return change(least(), func(p *api.Policy) { *listsOf(p)[word] = list })
		}
		all := numbered(64, ahead, "")
		for _, n := range []int{0, 1, 2, 3, 63, 64, 65, 66, 200} {
			wantRight(t, put(numbered(n, ahead, "")...), n <= 64)
		}
		for i := range all[1:] {
			turned := slices.Clone(all)
			turned[i], turned[i+1] = turned[i+1], turned[i]
			wantRight(t, put(turned...), false)
			twice := slices.Clone(all)
			twice[i] = twice[i+1]
			wantRight(t, put(twice...), false)
			wrong := slices.Clone(all)
			wrong[i] += "."
			wantRight(t, put(wrong...), false)
		}
		for _, c := range []struct {
			list []string
			want bool
		}{
			{[]string{"a", "b"}, true}, {[]string{"b", "a"}, false}, {[]string{"a", "a"}, false}, {[]string{"a", "a", "b"}, false}, {[]string{"a", "b", "b"}, false}, {[]string{"a", "c", "b"}, false}, {[]string{"b", "a", "c"}, false},
			// Byte by byte: `-` is ahead of the digits, those ahead of the letters, and what goes on is behind.
			{[]string{"a", "a-", "a-a", "a0", "a1", "a10", "a2", "aa", "ab", "b"}, true}, {[]string{"a-", "a"}, false}, {[]string{"a0", "a-"}, false}, {[]string{"aa", "a0"}, false}, {[]string{"a2", "a10"}, false}, {[]string{"aa", "b", "c"}, true}, {[]string{"b", "aa"}, false},
			{[]string{"", "a"}, false}, {[]string{"a", ""}, false}, {[]string{"A", "a"}, false}, {[]string{"a", "b", "é"}, false},
		} {
			list := slices.Clone(c.list)
			for i := range list {
				if word == "attr" {
					list[i] = "*." + list[i]
				}
			}
			wantRight(t, put(list...), c.want)
		}
	}
}

// TestRightNeverElems: elements that never may stay, alone and among others.
func TestRightNeverElems(t *testing.T) {
	put := func(list ...string) api.Policy {
		return change(least(), func(p *api.Policy) { p.Elems = list })
	}
	for _, never := range []string{
		"script", "style", "xmp", "iframe", "noembed", "noframes", "plaintext", "textarea", "title",
		"base", "embed", "form", "input", "link", "math", "meta", "object", "param", "select", "svg", "template", "noscript", "frame", "frameset",
	} {
		wantRight(t, put(never), false)
		wantRight(t, put("a", never), false)
		wantRight(t, put(never, "zz"), false)
		wantRight(t, put(never+"s"), true)
		wantRight(t, put(never+"-"), true)
		wantRight(t, put("x"+never), true)
		// What never may be an element may be in the other lists.
		wantRight(t, change(least(), func(p *api.Policy) { p.Schemes, p.Classes, p.Props = []string{never}, []string{never}, []string{never} }), true)
		if never != "style" {
			wantRight(t, change(least(), func(p *api.Policy) { p.Attrs = []string{"*." + never} }), true)
		}
	}
	for _, may := range []string{"a", "area", "audio", "body", "br", "button", "canvas", "div", "head", "html", "img", "on", "onclick", "option", "p", "pre", "span", "srcdoc", "table", "track", "video", "wbr", "javascript", "data", "formaction", "ul", "ol"} {
		wantRight(t, put(may), true)
	}
}

// TestRightItems: li is not there without ul and ol; they are without it.
func TestRightItems(t *testing.T) {
	for n := range 32 {
		var list []string
		has := map[string]bool{}
		for i, name := range []string{"a", "li", "ol", "q", "ul"} {
			if n>>i&1 == 1 {
				list = append(list, name)
				has[name] = true
			}
		}
		wantRight(t, change(least(), func(p *api.Policy) { p.Elems = list }), !has["li"] || has["ul"] && has["ol"])
	}
	wantRight(t, change(least(), func(p *api.Policy) { p.Elems = []string{"lii"} }), true)
	// In other lists it is a word like others.
	wantRight(t, change(least(), func(p *api.Policy) {
		p.Attrs, p.Schemes, p.Classes, p.Props = []string{"*.li"}, []string{"li"}, []string{"li"}, []string{"li"}
	}), true)
	wantRight(t, change(least(), func(p *api.Policy) {
		p.Elems, p.Classes, p.Props = []string{"li"}, []string{"ol", "ul"}, []string{"ol", "ul"}
	}), false)
}

func TestRightAttrs(t *testing.T) {
	put := func(list ...string) api.Policy {
		return change(least(), func(p *api.Policy) { p.Elems, p.Attrs = []string{"a", "b-1", "p"}, list })
	}
	for _, s := range []string{
		"*.a", "*.href", "a.href", "p.title", "b-1.x", "a.rel", "a.a", "*.p", "a.class", "*.srcdocs", "*.srcdo", "*.xstyle", "*.styles", "*.formactions", "*.action", "*.o", "*.no", "*.xon", "*.no-on", "*.o-n", "*.data", "*.script", "*.javascript",
		"a." + strings.Repeat("b", 32), "*." + strings.Repeat("b", 32),
	} {
		wantRight(t, put(s), true)
	}
	for _, s := range []string{
		"", "a", "*", ".", "..", "*.", "a.", ".a", "*a", "**.a", "*.*", "a.*", "*..a", "a..b", "*.a.b", "a.href.x", "a.a.", ".a.b", "b.x", "q.href", "A.href", "a.HREF", "a.hreF", " a.href", "a .href", "a. href", "a.href ", "*. a", "a.b c", "a:href", "a,href", "ahref", "aa.href", "b-.x", "b-1", "b.1.x", "script.src", "li.value",
		"*.style", "a.style", "*.srcdoc", "p.srcdoc", "*.formaction", "a.formaction", "*.on", "*.onclick", "a.onclick", "p.onerror", "*.one", "*.on-", "*.on0", "*.only",
		"a." + strings.Repeat("b", 33), "*." + strings.Repeat("b", 33), "*.on" + strings.Repeat("b", 30), "a.é", "a.\xff", "é.a", "\x00.a", "a.a\n", "a\n.a",
	} {
		wantRight(t, put(s), false)
	}
	wantRight(t, put("*.id", "a.href", "a.id", "b-1.id", "p.id"), true)
	// `*` is ahead of all letters; what `.` parts is one text.
	wantRight(t, put("a.id", "*.id"), false)
	wantRight(t, put("*.id", "b-1.id", "a.id"), false)
	wantRight(t, put("*.id", "a.href", "q.id"), false)
	wantRight(t, change(least(), func(p *api.Policy) { p.Attrs = []string{"a.href"} }), false)
	wantRight(t, change(least(), func(p *api.Policy) { p.Classes, p.Attrs = []string{"a"}, []string{"a.href"} }), false)
	// An element's name of 32 bytes, and an attribute's.
	long := strings.Repeat("e", 32)
	wantRight(t, change(least(), func(p *api.Policy) { p.Elems, p.Attrs = []string{long}, []string{long + "." + long} }), true)
	// Elems that may not be do not make it right that `*` or a name is there.
	wantRight(t, change(least(), func(p *api.Policy) { p.Elems, p.Attrs = []string{"*"}, []string{"*.id"} }), false)
	wantRight(t, change(least(), func(p *api.Policy) { p.Elems, p.Attrs = []string{"a.b"}, []string{"a.b.c"} }), false)
	wantRight(t, change(least(), func(p *api.Policy) { p.Elems, p.Attrs = []string{""}, []string{".a"} }), false)
}

func TestRightSchemes(t *testing.T) {
	put := func(list ...string) api.Policy {
		return change(least(), func(p *api.Policy) { p.Schemes = list })
	}
	for _, never := range []string{"javascript", "data", "vbscript"} {
		wantRight(t, put(never), false)
		wantRight(t, put("a", never), false)
		wantRight(t, put(never, "zz"), false)
		for _, may := range []string{never + "s", "x" + never, never[:len(never)-1], never + "-"} {
			wantRight(t, put(may), true)
		}
		wantRight(t, change(least(), func(p *api.Policy) {
			p.Elems, p.Attrs, p.Classes, p.Props = []string{never}, []string{"*." + never}, []string{never}, []string{never}
		}), true)
	}
	wantRight(t, put("ftp", "http", "https", "mailto", "script", "style"), true)
	for _, s := range []string{"https:", "HTTPS", "git+ssh", "a.b", "JavaScript", "*"} {
		wantRight(t, put(s), false)
	}
}

// TestReadWrong: texts that are not just what Text tells.
func TestReadWrong(t *testing.T) {
	lines := strings.SplitAfter(fullText, "\n")
	lines = lines[:len(lines)-1]
	wrong := []string{
		"", "\n", " ", "epoch", "epoch 1", "epoch 1\n", "caps 1 1 1\n", "caps 1 1 1\nepoch 1\n", "\x00", "epoch 1\ncaps 1 1 1", "epoch 1\ncaps 1 1 1\n\n", "\nepoch 1\ncaps 1 1 1\n", "epoch 1\n\ncaps 1 1 1\n", "epoch 1\r\ncaps 1 1 1\r\n", "epoch 1\ncaps 1 1 1\nx", "epoch 1\ncaps 1 1 1\nelem a\n", "epoch 1\ncaps 1 1 1\ncaps 1 1 1\n", "epoch 1\nepoch 1\ncaps 1 1 1\n", "epoch 1\ncaps 1 1 1\nepoch 1\n",
		"epoch 1caps 1 1 1\n", "epoch 1 caps 1 1 1\n", "Epoch 1\ncaps 1 1 1\n", "epoch 1\nCaps 1 1 1\n", "epoch: 1\ncaps 1 1 1\n", "epoch\t1\ncaps 1 1 1\n", "epoch  1\ncaps 1 1 1\n", "epoch 1 \ncaps 1 1 1\n", " epoch 1\ncaps 1 1 1\n", "epoch1\ncaps 1 1 1\n", "epochs 1\ncaps 1 1 1\n", "epoch \ncaps 1 1 1\n", "epoch\ncaps 1 1 1\n",
		"epoch 1\ncaps 1 1\n", "epoch 1\ncaps 1\n", "epoch 1\ncaps\n", "epoch 1\ncaps \n", "epoch 1\ncaps 1 1 1 1\n", "epoch 1\ncaps 1 1 1 \n", "epoch 1\ncaps 1  1 1\n", "epoch 1\ncaps  1 1 1\n", "epoch 1\ncaps 1 1  1\n", "epoch 1\ncaps 1,1,1\n", "epoch 1\ncaps1 1 1\n", "epoch 1\ncaps 1 1 x\n", "epoch 1\ncaps x 1 1\n", "epoch 1\ncaps 1 x 1\n", "epoch 1\ncaps 1\n1 1\n",
		"epoch 1\nelem\ncaps 1 1 1\n", "epoch 1\nelem \ncaps 1 1 1\n", "epoch 1\nelem  a\ncaps 1 1 1\n", "epoch 1\nelem a \ncaps 1 1 1\n", "epoch 1\nelem a b\ncaps 1 1 1\n", "epoch 1\nelema\ncaps 1 1 1\n", "epoch 1\nelems a\ncaps 1 1 1\n", "epoch 1\nELEM a\ncaps 1 1 1\n", "epoch 1\n elem a\ncaps 1 1 1\n", "epoch 1\na\ncaps 1 1 1\n", "epoch 1\nelem a\relem b\ncaps 1 1 1\n", "epoch 1\nelem a\nelem bcaps 1 1 1\n", "epoch 1\nother a\ncaps 1 1 1\n", "epoch 1\nelem a\n\nelem b\ncaps 1 1 1\n", "epoch 1\nattr a.href\nelem a\ncaps 1 1 1\n", "epoch 1\nelem b\nelem a\ncaps 1 1 1\n", "epoch 1\nelem a\nelem a\ncaps 1 1 1\n",
		fullText + fullText, fullText + "\n", " " + fullText, "\ufeff" + fullText, strings.ToUpper(fullText), strings.ReplaceAll(fullText, "\n", "\r\n"), strings.TrimSuffix(fullText, "\n"),
	}
	for n := range len(fullText) {
		wrong = append(wrong, fullText[:n])
		if n > 0 {
			wrong = append(wrong, fullText[n:])
		}
	}
	// Two lines that stand beside one another, turned; and one of them twice.
	for i := range lines[1:] {
		turned := slices.Clone(lines)
		turned[i], turned[i+1] = turned[i+1], turned[i]
		wrong = append(wrong, strings.Join(turned, ""), strings.Join(slices.Insert(slices.Clone(lines), i, lines[i]), ""))
	}
	for _, s := range wrong {
		if p, e := Read(s); e != api.ErrForm || !same(p, api.Policy{}) {
			t.Errorf("Read(%q) is %+v, %v", s, p, e)
		}
	}
}

// TestReadDigits: numbers are decimal, and each has one form.
func TestReadDigits(t *testing.T) {
	for _, c := range []struct {
		digits string
		want   int
	}{
		{"1", 1}, {"9", 9}, {"10", 10}, {"64", 64},
		{"", 0}, {"0", 0}, {"00", 0}, {"01", 0}, {"064", 0}, {"+1", 0}, {"-1", 0}, {"-0", 0}, {"1.0", 0}, {"1.", 0}, {"1e1", 0}, {"0x1", 0}, {"0b1", 0}, {"0o7", 0}, {"1_0", 0}, {"1,0", 0}, {"a", 0}, {"1a", 0}, {"١", 0}, {"１", 0}, {"1\t", 0}, {"\x001", 0}, {"\xff", 0},
		{"18446744073709551617", 0}, {"9223372036854775808", 0}, {"9223372036854775807", 0}, {"-9223372036854775809", 0}, {"4294967297", 0}, {strings.Repeat("1", 100000), 0}, {strings.Repeat("0", 100000) + "1", 0},
	} {
		for at, text := range []string{"epoch " + c.digits + "\ncaps 1 1 1\n", "epoch 1\ncaps " + c.digits + " 1 1\n", "epoch 1\ncaps 1 " + c.digits + " 1\n", "epoch 1\ncaps 1 1 " + c.digits + "\n"} {
			p, e := Read(text)
			if c.want == 0 {
				if e != api.ErrForm || !same(p, api.Policy{}) {
					t.Errorf("Read(%.100q) is %+v, %v", text, p, e)
				}
				continue
			}
			want := []int{1, 1, 1, 1}
			want[at] = c.want
			if got := []int{p.Epoch, p.Depth, p.Nodes, p.Bytes}; e != api.OK || !slices.Equal(got, want) {
				t.Errorf("Read(%q) is %+v, %v", text, p, e)
			}
		}
	}
}

func TestElem(t *testing.T) {
	p := full()
	for _, name := range p.Elems {
		if !Elem(p, name) {
			t.Errorf("Elem of %q is false", name)
		}
	}
	for _, name := range []string{"", "*", "A", "c", "aa", "l", "lii", " a", "a ", "a\n", "class", "href", "a.href", "http", "mention", "color", "\xff"} {
		if Elem(p, name) {
			t.Errorf("Elem of %q is true", name)
		}
	}
	// Whether the policy may be is not asked.
	p = api.Policy{Elems: []string{"script", "b", "", "b", "A"}}
	for name, want := range map[string]bool{"script": true, "b": true, "": true, "A": true, "a": false, "B": false} {
		if got := Elem(p, name); got != want {
			t.Errorf("Elem of %q is %v", name, got)
		}
	}
	if Elem(api.Policy{}, "") || Elem(api.Policy{}, "a") {
		t.Error("an element of none")
	}
}

func TestAttr(t *testing.T) {
	p := full()
	for _, c := range []struct {
		elem, attr string
		want       bool
	}{
		{"a", "href", true}, {"a", "class", true}, {"b", "class", true}, {"li", "value", true}, {"li", "class", true},
		{"b", "href", false}, {"li", "href", false}, {"a", "value", false}, {"a", "id", false}, {"q", "class", false}, {"q", "href", false}, {"", "class", false}, {"*", "class", false}, {"A", "href", false}, {"a", "HREF", false}, {"a", "", false}, {"a", "hre", false}, {"a", "hrefs", false}, {"a", "*", false}, {"", "", false}, {"a", "a.href", false}, {"a", "*.class", false}, {"a.", "href", false}, {"a", ".href", false}, {"a.href", "", false},
	} {
		if got := Attr(p, c.elem, c.attr); got != c.want {
			t.Errorf("Attr of %q and %q is %v", c.elem, c.attr, got)
		}
	}
	for _, c := range []struct {
		elems, attrs []string
		elem, attr   string
		want         bool
	}{
		{nil, nil, "", "", false}, {nil, []string{"*.a", "a.a"}, "a", "a", false}, {[]string{"a"}, nil, "a", "a", false},
		// Whether the policy may be is not asked; texts are held against each other whole.
		{[]string{"q", "a"}, []string{"b.x", "a.onclick"}, "a", "onclick", true}, {[]string{"*"}, []string{"*.a"}, "*", "a", true}, {[]string{"*"}, []string{"b.a"}, "*", "a", false}, {[]string{"a"}, []string{"b.c"}, "b", "c", false}, {[]string{""}, []string{"."}, "", "", true}, {[]string{""}, []string{"*."}, "", "", true}, {[]string{"a"}, []string{"a"}, "a", "", false}, {[]string{"a"}, []string{"*"}, "a", "x", false}, {[]string{"a"}, []string{"*"}, "a", "", false}, {[]string{"a"}, []string{"*."}, "a", "", true},
		{[]string{"a.b"}, []string{"a.b.c"}, "a.b", "c", true}, {[]string{"a"}, []string{"a.b.c"}, "a", "b.c", true}, {[]string{"a"}, []string{"a.b.c"}, "a.b", "c", false}, {[]string{"a.b"}, []string{"*.b.c"}, "a.b", "c", false}, {[]string{"a"}, []string{"*.b.c"}, "a", "b.c", true},
	} {
		if got := Attr(api.Policy{Elems: c.elems, Attrs: c.attrs}, c.elem, c.attr); got != c.want {
			t.Errorf("Attr of %q and %q, by %q and %q, is %v", c.elem, c.attr, c.elems, c.attrs, got)
		}
	}
}

// TestStricter: one thing more or less, at a time.
func TestStricter(t *testing.T) {
	q := full()
	if !Stricter(q, q) || !Stricter(least(), q) || Stricter(q, least()) || !Stricter(api.Policy{}, q) || Stricter(q, api.Policy{}) || !Stricter(api.Policy{}, api.Policy{}) {
		t.Error("a policy and itself, and one that lets nothing")
	}
	for word, list := range listsOf(&q) {
		for i := range *list {
			p := change(q, func(p *api.Policy) { at := listsOf(p)[word]; *at = slices.Delete(slices.Clone(*at), i, i+1) })
			if !Stricter(p, q) || Stricter(q, p) {
				t.Errorf("without the %s of the number %d", word, i)
			}
		}
		for _, more := range []string{"", "q", "zz", "q.q", strings.ToUpper((*list)[0]), (*list)[0] + "x", "x" + (*list)[0] + "x"} {
			p := change(q, func(p *api.Policy) { at := listsOf(p)[word]; *at = append(slices.Clone(*at), more) })
			if Stricter(p, q) || !Stricter(q, p) {
				t.Errorf("with the %s %q more", word, more)
			}
		}
		p := change(q, func(p *api.Policy) { *listsOf(p)[word] = nil })
		if !Stricter(p, q) || Stricter(q, p) {
			t.Errorf("without any %s", word)
		}
	}
	for i, at := range []func(p *api.Policy) *int{func(p *api.Policy) *int { return &p.Depth }, func(p *api.Policy) *int { return &p.Nodes }, func(p *api.Policy) *int { return &p.Bytes }} {
		for _, n := range []int{math.MinInt, -1, 0, 1, 8, 9, 10, 98, 99, 100, 998, 999, 1000, math.MaxInt} {
			p := change(q, func(p *api.Policy) { *at(p) = n })
			if got, want := Stricter(p, q), n <= *at(&q); got != want {
				t.Errorf("the cap of the number %d is %d: %v", i, n, got)
			}
			if got, want := Stricter(q, p), n >= *at(&q); got != want {
				t.Errorf("the other's cap of the number %d is %d: %v", i, n, got)
			}
		}
	}
	// One cap that is less does not make up for one that is more.
	if Stricter(change(q, func(p *api.Policy) { p.Depth, p.Nodes, p.Bytes = 1, 1, 1000 }), q) {
		t.Error("a cap that is more, beside two that are less")
	}
	for _, epoch := range []int{math.MinInt, 0, 1, 6, 8, 1000000, math.MaxInt} {
		p := change(q, func(p *api.Policy) { p.Epoch = epoch })
		if !Stricter(p, q) || !Stricter(q, p) {
			t.Errorf("the epoch %d counts", epoch)
		}
	}
}

// TestStricterLists: a list is held against the other's of its kind, in any
// order.
func TestStricterLists(t *testing.T) {
	words := []string{"elem", "attr", "scheme", "class", "prop"}
	for _, of := range words {
		p := change(least(), func(p *api.Policy) { *listsOf(p)[of] = []string{"x.y", "x", "x.y", "b"} })
		for _, in := range words {
			q := change(least(), func(p *api.Policy) { *listsOf(p)[in] = []string{"b", "", "x", "z", "x.y"} })
			if got := Stricter(p, q); got != (of == in) {
				t.Errorf("what is in the %s, and of the other in the %s: %v", of, in, got)
			}
		}
	}
}

func TestStricterAttrs(t *testing.T) {
	for _, c := range []struct {
		p, q []string
		want bool
	}{
		{[]string{"a.href"}, []string{"a.href"}, true}, {[]string{"a.href"}, []string{"*.href"}, true}, {[]string{"*.href"}, []string{"a.href"}, false}, {[]string{"*.href"}, []string{"*.href"}, true}, {[]string{"a.href", "b.href", "c.href"}, []string{"*.href"}, true}, {[]string{"*.href", "a.href"}, []string{"*.href"}, true}, {[]string{"*.href"}, []string{"*.href", "a.href"}, true},
		{[]string{"a.href", "a.id"}, []string{"*.href"}, false}, {[]string{"a.href", "a.id"}, []string{"*.id", "a.href"}, true}, {[]string{"a.href"}, []string{"b.href"}, false}, {[]string{"a.href"}, []string{"*.hre", "*.hrefs", "*.", "*", "href", ".href", "**.href", "*.a.href", "A.href", "a.HREF"}, false},
		{nil, nil, true}, {nil, []string{"*.a"}, true}, {[]string{"*.a"}, nil, false},
		// The word is what stands behind the first dot.
		{[]string{"a.b.c"}, []string{"*.b.c"}, true}, {[]string{"a.b.c"}, []string{"*.c"}, false}, {[]string{"a..c"}, []string{"*..c"}, true}, {[]string{"a..c"}, []string{"*.c"}, false}, {[]string{"a."}, []string{"*."}, true}, {[]string{"a."}, []string{"*"}, false}, {[]string{"."}, []string{"*."}, true}, {[]string{".a"}, []string{"*.a"}, true}, {[]string{".a"}, []string{"*"}, false}, {[]string{"*.a.b"}, []string{"*.b"}, false},
		// Without a dot `*` is asked for, beside the text itself.
		{[]string{"a"}, []string{"*"}, true}, {[]string{"a"}, []string{"*."}, false}, {[]string{"a"}, []string{"*.a"}, false}, {[]string{"a"}, []string{"a"}, true}, {[]string{"a"}, []string{"b", "a"}, true}, {[]string{""}, []string{"*"}, true}, {[]string{""}, []string{""}, true}, {[]string{""}, []string{"*."}, false}, {[]string{""}, nil, false}, {[]string{"*"}, []string{"*"}, true}, {[]string{"*"}, []string{"a", "*.a", "*."}, false}, {[]string{"a.b"}, []string{"*"}, false}, {[]string{"a", "a.b"}, []string{"*", "*.b"}, true},
	} {
		p, q := api.Policy{Attrs: c.p}, api.Policy{Attrs: c.q}
		if got := Stricter(p, q); got != c.want {
			t.Errorf("Stricter of the attributes %q and %q is %v", c.p, c.q, got)
		}
	}
	// A star stands for elements' names in Attrs alone.
	for _, word := range []string{"elem", "scheme", "class", "prop"} {
		p := change(least(), func(p *api.Policy) { *listsOf(p)[word] = []string{"a.b", "a"} })
		q := change(least(), func(p *api.Policy) { *listsOf(p)[word] = []string{"*", "*.b"} })
		if Stricter(p, q) {
			t.Errorf("a star in the %s", word)
		}
	}
}

func TestLong(t *testing.T) {
	const many = 1 << 20
	for word := range listsOf(&api.Policy{}) {
		p := change(least(), func(p *api.Policy) { *listsOf(p)[word] = slices.Repeat([]string{"a"}, many) })
		if Right(p) || !Stricter(p, p) {
			t.Errorf("many of the %s", word)
		}
	}
	long := strings.Repeat("a", many)
	for _, s := range []string{
		long, strings.Repeat("\n", many), strings.Repeat(" ", many), strings.Repeat("epoch 1\n", many), "epoch " + long + "\ncaps 1 1 1\n", "epoch 1\n" + strings.Repeat("elem a\n", many) + "caps 1 1 1\n", "epoch 1\nelem " + long + "\ncaps 1 1 1\n", "epoch 1\nelem " + long, "epoch 1\ncaps" + strings.Repeat(" 1", many) + "\n",
		"epoch 1\n" + strings.Repeat("prop ", many) + "\ncaps 1 1 1\n", "epoch 1\ncaps 1 1 1\n" + long, strings.Repeat("epoch 1\ncaps 1 1 1\n", many),
	} {
		if p, e := Read(s); e != api.ErrForm || !same(p, api.Policy{}) {
			t.Errorf("a long text of %q: %v", s[:20], e)
		}
	}
	p := change(least(), func(p *api.Policy) { p.Elems, p.Attrs = []string{long}, []string{long + "." + long} })
	if Right(p) || !Elem(p, long) || !Attr(p, long, long) || Attr(p, long, long+"a") {
		t.Error("long names")
	}
}

// TestLargest: all lists full, of words as long as may be.
func TestLargest(t *testing.T) {
	tail := strings.Repeat("x", 27)
	words := numbered(64, "a", tail)
	p := api.Policy{Epoch: 1000000, Elems: words, Schemes: words, Classes: words, Props: words, Depth: 64, Nodes: 2000, Bytes: 16384}
	for _, s := range words {
		p.Attrs = append(p.Attrs, s+"."+s)
	}
	wantRight(t, p, true)
}

// TestInputsStay: policies are the same behind a call, and so is what stands
// behind their lists in their arrays.
func TestInputsStay(t *testing.T) {
	all := []string{"p", "a", "", "p", "x"}
	p := api.Policy{Epoch: 3, Elems: all[:4], Attrs: all[:4], Schemes: all[:4], Classes: all[:4], Props: all[:4], Depth: 1, Nodes: 2, Bytes: 3}
	rising := []string{"a", "b", "c", "x"}
	q := change(p, func(p *api.Policy) {
		p.Elems, p.Attrs, p.Schemes, p.Classes, p.Props = rising[:3], nil, rising[:3], rising[:3], rising[:3]
	})
	for range 2 {
		if Right(p) || !Right(q) || Stricter(p, q) || Stricter(q, p) || !Elem(p, "a") || Elem(p, "x") || Attr(p, "a", "x") {
			t.Error("what is answered")
		}
		if _, e := Text(p); e != api.ErrForm {
			t.Error(e)
		}
		if _, e := Text(q); e != api.OK {
			t.Error(e)
		}
	}
	if !slices.Equal(all, []string{"p", "a", "", "p", "x"}) || !slices.Equal(rising, []string{"a", "b", "c", "x"}) {
		t.Errorf("a policy is changed: %q, %q", all, rising)
	}
}

// TestAnswersAreNew: what is told shares no byte with what was given, and no
// list with what was told before.
func TestAnswersAreNew(t *testing.T) {
	b := []byte(fullText)
	p, _ := Read(unsafe.String(&b[0], len(b)))
	for i := range b {
		b[i] = 'z'
	}
	if !same(p, full()) {
		t.Errorf("what is read shares bytes: %+v", p)
	}
	q, _ := Read(fullText)
	for _, list := range listsOf(&q) {
		(*list)[0] = "changed"
		*list = append((*list)[:1], "changed")
	}
	if again, e := Read(fullText); e != api.OK || !same(again, full()) || !same(p, full()) {
		t.Errorf("what is read is shared: %+v, %+v", again, p)
	}
	c := []byte("abc")
	s, _ := Text(change(least(), func(p *api.Policy) { p.Classes = []string{unsafe.String(&c[0], len(c))} }))
	c[0] = 'z'
	if s != "epoch 1\nclass abc\ncaps 1 1 1\n" {
		t.Errorf("a text shares bytes: %q", s)
	}
}
