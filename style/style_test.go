package style

import (
	"slices"
	"strings"
	"testing"
	"unsafe"
)

// The tests of ordinary inputs, and of the edges that the chapter names, say
// what they want byte by byte. Those in model_test.go hold the package against
// the chapter's words, at many texts.

func TestValue(t *testing.T) {
	for _, s := range []string{
		"a", "z", "0", "9", "#", "%", ".", ",", "-", "red", "1px", "#ff00ff", "50%", "1.5em", "-1px", "a, #1.5%-", "1px 2px  3px", "a b", "- -", ",,,", "--", "..",
		strings.Repeat("a", 100), strings.Repeat("-", 99), "a" + strings.Repeat(" ", 98) + "a",
	} {
		if !Value(s) {
			t.Errorf("Value(%q) is false", s)
		}
	}
	for _, s := range []string{
		"", " ", "  ", " a", "a ", " a ", "A", "aB", "Ba", "RED", "a:b", "a;b", "a/b", `a\b`, "a(b)", "url(x)", "a!important", "a!", `"a"`, "'a'", "`a", "<a", "a>", "a&b", "a=b", "a+b", "a*b", "a_b", "a@b", "a$b", "a~b", "a^b", "a|b", "a?b", "[a]", "{a}",
		"\ta", "a\n", "a\tb", "a\nb", "a\fb", "a\rb", "a\vb", "a\x00b", "\x00", "a\x1fb", "a\x7f", "é", "aé", "\xff", "a\x80b", "a\u00a0b", "\u00a0a", "ａ", "٣", "\u212a", "ſ", "\xe1", "\xb0",
		strings.Repeat("a", 101), strings.Repeat("a", 1000), strings.Repeat(" ", 50), " " + strings.Repeat("a", 99), strings.Repeat("a", 99) + " ", strings.Repeat("a", 99) + "A", "A" + strings.Repeat("a", 99), strings.Repeat("a", 99) + "é",
	} {
		if Value(s) {
			t.Errorf("Value(%q) is true", s)
		}
	}
}

// TestValueAllBytes: each byte alone, as the first, within, and as the last.
func TestValueAllBytes(t *testing.T) {
	for n := range 256 {
		b := string([]byte{byte(n)})
		outside := strings.Contains("abcdefghijklmnopqrstuvwxyz0123456789#%.,-", b)
		within := outside || n == 32
		for in, want := range map[string]bool{b: outside, b + b: outside, b + "a": outside, "a" + b: outside, "a" + b + "c": within, "a" + b + b + "c": within, "a" + b + "c d": within} {
			if got := Value(in); got != want {
				t.Errorf("Value(%q) is %v", in, got)
			}
		}
	}
}

func TestValueLengths(t *testing.T) {
	for n := range 300 {
		if got, want := Value(strings.Repeat("a", n)), 1 <= n && n <= 100; got != want {
			t.Errorf("Value of %d bytes is %v", n, got)
		}
	}
}

func TestFilter(t *testing.T) {
	props := []string{"color", "width", "text-align"}
	for _, c := range []struct{ in, want string }{
		{"Color : RED; width:1px;;x; color: blue", "width: 1px; color: blue"}, {"color: url(x)", ""}, {"", ""},
		{"color:red", "color: red"}, {"color: red;", "color: red"}, {";color: red", "color: red"}, {"color: red; width: 1px", "color: red; width: 1px"}, {"width: 1px; color: red", "width: 1px; color: red"},
		{"text-align:center;color:#fff;width:50%", "text-align: center; color: #fff; width: 50%"}, {"color:a;;;width:b", "color: a; width: b"},
		// Parts that have no name and value.
		{";", ""}, {";;;", ""}, {"color", ""}, {"color;red", ""}, {"color red", ""}, {"x;color:red;y", "color: red"}, {"color=red", ""}, {" ", ""}, {"\t;\n", ""},
		// A value that may not stay, and one that does, the part's fate alone.
		{"color:", ""}, {"color: ", ""}, {"color:;width:1", "width: 1"}, {":", ""}, {":red", ""}, {" : red", ""}, {"::", ""}, {"color::red", ""}, {"color:red:blue", ""}, {"color:red:", ""}, {"color:red:;width:2", "width: 2"},
		{"color:a/*;color:b;*/width:c", "color: b"}, {"color:a!important", ""}, {`color:"a"`, ""}, {"color:'a;width:1'", ""}, {"color:'a;width:1", "width: 1"}, {`color:a\;width:1`, "width: 1"}, {"color:expression(x)", ""}, {"color:rgb(1,2,3);width:1px", "width: 1px"}, {"color:<b>", ""}, {"color:a&#59;", ""},
		{"color:a\tb", ""}, {"color:a\nb", ""}, {"color:a  b", "color: a  b"}, {"color:a\x00", ""}, {"color:é", ""}, {"color:\xff", ""}, {"color:\u00a0a", ""}, {"color:\u212a", ""},
		// Names that are none of props.
		{"height: 1px", ""}, {"colo:a", ""}, {"colors:a", ""}, {"co lor:a", ""}, {"co\tlor:a", ""}, {"c olor:a;width:1", "width: 1"}, {"-color:a", ""}, {"color-:a", ""}, {"/**/color:a", ""}, {"{color:a", ""}, {"color width:a", ""}, {"\xffcolor:a", ""}, {"\u00a0color:a", ""}, {"height:1;color:2;height:3", "color: 2"},
		// Great letters.
		{"COLOR:RED", "color: red"}, {"cOlOr:rEd", "color: red"}, {"TEXT-ALIGN:#ABCDEF", "text-align: #abcdef"}, {"width:ABCDEFGHIJKLMNOPQRSTUVWXYZ", "width: abcdefghijklmnopqrstuvwxyz"},
	} {
		if got := Filter(c.in, props); got != c.want {
			t.Errorf("Filter(%q) is %q, not %q", c.in, got, c.want)
		}
	}
}

func TestFilterTwice(t *testing.T) {
	for _, c := range []struct{ in, want string }{
		{"a:1;a:2", "a: 2"}, {"a:1;a:1", "a: 1"}, {"a:1;a:2;a:3", "a: 3"}, {"a:1;b:2;a:3", "b: 2; a: 3"}, {"a:1;b:2;a:3;b:4", "a: 3; b: 4"}, {"a:1;b:2;c:3;a:4", "b: 2; c: 3; a: 4"}, {"b:1;a:2;a:3;c:4", "b: 1; a: 3; c: 4"}, {"a:1;A:2;a : 3", "a: 3"},
		// One that does not stay takes none away.
		{"a:1;a:(", "a: 1"}, {"a:1;a:", "a: 1"}, {"a:1;a", "a: 1"}, {"a:1;a:(;b:2", "a: 1; b: 2"}, {"a:(;a:1;b:2;a:)", "a: 1; b: 2"}, {"a:1;b:2;a:3;a:!", "b: 2; a: 3"}, {"a:1;d:2;a:!;d:3", "a: 1"}, {"a:1;aa:2", "a: 1"},
	} {
		if got := Filter(c.in, []string{"a", "b", "c"}); got != c.want {
			t.Errorf("Filter(%q) is %q, not %q", c.in, got, c.want)
		}
	}
}

// TestFilterProps: names are held against props as they stand there, whatever
// they are.
func TestFilterProps(t *testing.T) {
	for _, c := range []struct {
		in    string
		props []string
		want  string
	}{
		{"a:1", nil, ""}, {"a:1", []string{}, ""}, {"a:1;b:2", []string{"b", "a"}, "a: 1; b: 2"}, {"a:1;b:2", []string{"a", "a"}, "a: 1"}, {"a:1;b:2;a:3", []string{"a", "b", "a", "b"}, "b: 2; a: 3"},
		// Small letters of a name meet no great ones.
		{"a:1", []string{"A"}, ""}, {"A:1", []string{"A"}, ""}, {"A:1", []string{"A", "a"}, "a: 1"},
		// Nor is a prop without what stands around it.
		{"a:1", []string{" a"}, ""}, {" a:1", []string{" a", "a "}, ""}, {"a:1", []string{"a:"}, ""}, {"a:1", []string{"a:1", "a: 1", "*", "a,b", "ab", ""}, ""}, {"a;b:1", []string{"a;b"}, ""},
		// An empty name, and others that no policy has.
		{":1", []string{""}, ": 1"}, {" : 1 ;a:2", []string{"a", ""}, ": 1; a: 2"}, {":1;a:2;\t:3", []string{"a", ""}, "a: 2; : 3"}, {"::", []string{""}, ""}, {"1", []string{""}, ""}, {":", []string{""}, ""},
		{"a b:1", []string{"a b"}, "a b: 1"}, {"a1:2", []string{"a1"}, "a1: 2"}, {"É:1", []string{"É"}, "É: 1"}, {"É:1", []string{"é"}, ""}, {"\xff:1", []string{"\xff"}, "\xff: 1"}, {"\xff:1", []string{"\ufffd"}, ""}, {"--X:1", []string{"--x"}, "--x: 1"}, {"<:1", []string{"<"}, "<: 1"}, {"\v:1", []string{"\v"}, "\v: 1"},
	} {
		if got := Filter(c.in, c.props); got != c.want {
			t.Errorf("Filter(%q, %q) is %q, not %q", c.in, c.props, got, c.want)
		}
	}
}

// TestFilterAllBytes: each byte around, and within, a name and a value, and
// between parts.
func TestFilterAllBytes(t *testing.T) {
	for n := range 256 {
		b := string([]byte{byte(n)})
		blank := n == 9 || n == 10 || n == 12 || n == 13 || n == 32
		low := b
		if 'A' <= n && n <= 'Z' {
			low = string([]byte{byte(n + 32)})
		}
		outside := strings.Contains("abcdefghijklmnopqrstuvwxyz0123456789#%.,-", low)
		wants := map[string]string{"color" + b + "x:1": "", "c" + b + "olor:1": "", b + "color:1": "", "color" + b + ":1": "", "color:1" + b + "2": "", "color:" + b + "1": "", "color:1" + b: ""}
		switch {
		case b == ";":
			wants[b+"color:1"], wants["color:1"+b], wants["color:1"+b+"2"] = "color: 1", "color: 1", "color: 1"
		case blank:
			wants[b+"color:1"], wants["color"+b+":1"], wants["color:"+b+"1"], wants["color:1"+b] = "color: 1", "color: 1", "color: 1", "color: 1"
		case outside:
			wants["color:"+b+"1"], wants["color:1"+b] = "color: "+low+"1", "color: 1"+low
		}
		if n == 32 || outside {
			wants["color:1"+b+"2"] = "color: 1" + low + "2"
		}
		for in, want := range wants {
			if got := Filter(in, []string{"color"}); got != want {
				t.Errorf("Filter(%q) is %q, not %q", in, got, want)
			}
		}
	}
}

// TestFilterBlanks: any number of blanks stands around a name and a value.
func TestFilterBlanks(t *testing.T) {
	for _, around := range []string{"", " ", "\t", "\n", "\f", "\r", "\t\n\f\r ", " \r\f\n\t", strings.Repeat(" ", 1000)} {
		for _, behind := range []string{"", " ", "\t", "\n", "\f", "\r", "\r\n", strings.Repeat("\t", 1000)} {
			in := around + "a" + behind + ":" + around + "1 2" + behind + ";" + behind + "b" + around + ":" + behind + "3" + around
			if got, want := Filter(in, []string{"a", "b"}), "a: 1 2; b: 3"; got != want {
				t.Errorf("Filter(%q) is %q, not %q", in, got, want)
			}
		}
	}
	for _, around := range []string{"\v", "\x00", "\x1f", "\x1c", "\u00a0", "\u0085", "\u2003", "\u3000", "\ufeff", "\x85", "\xa0"} {
		for _, in := range []string{around + "a:1", "a" + around + ":1", "a:" + around + "1", "a:1" + around} {
			if got := Filter(in, []string{"a"}); got != "" {
				t.Errorf("Filter(%q) is %q", in, got)
			}
		}
	}
}

// TestFilterLengths: blanks around a value are not counted among its bytes;
// how long a name is is not asked.
func TestFilterLengths(t *testing.T) {
	for n := 95; n < 110; n++ {
		value := strings.Repeat("b", n)
		want := ""
		if n <= 100 {
			want = "a: " + value
		}
		for _, in := range []string{"a:" + value, "a:   " + value + "   ", "a:" + strings.ToUpper(value)} {
			if got := Filter(in, []string{"a"}); got != want {
				t.Errorf("a value of %d bytes: %q", n, got)
			}
		}
	}
	name := strings.Repeat("n", 1000)
	if got := Filter(name+":1", []string{name}); got != name+": 1" {
		t.Errorf("a long name: %q", got)
	}
}

func TestLongStyles(t *testing.T) {
	const many = 1 << 18
	props := []string{"a", "b", "c"}
	if got := Filter(strings.Repeat("a:1;b:2;", many)+"c:3;a:4", props); got != "b: 2; c: 3; a: 4" {
		t.Errorf("many parts: %d bytes", len(got))
	}
	for _, s := range []string{strings.Repeat(";", many), strings.Repeat(":", many), strings.Repeat(" ", many), strings.Repeat("a", many), strings.Repeat("a:", many), "a:" + strings.Repeat("1", many), strings.Repeat("a:(;", many), strings.Repeat("d:1;", many), strings.Repeat("\xff", many)} {
		if got := Filter(s, props); got != "" {
			t.Errorf("a long style of %q: %d bytes", s[:4], len(got))
		}
	}
	if got := Filter(strings.Repeat("a:(;", many)+"a:1;"+strings.Repeat("a:);", many), props); got != "a: 1" {
		t.Errorf("one part among many: %d bytes", len(got))
	}
	if Value(strings.Repeat("a", many)) {
		t.Error("a long value")
	}
	if got := Filter("y:1;z:2", append(slices.Repeat([]string{"x"}, many), "y")); got != "y: 1" {
		t.Errorf("many props: %q", got)
	}
}

// manyNames are names of three letters each, all others.
func manyNames() []string {
	var names []string
	for i := range 12 * 12 * 12 {
		names = append(names, string([]byte{byte('a' + i/144), byte('a' + i/12%12), byte('a' + i%12)}))
	}
	return names
}

// TestManyNames: each name stays once, at the place of its last part, again and
// again in the same order.
func TestManyNames(t *testing.T) {
	names := manyNames()
	var in, back, want []string
	for i, name := range names {
		in = append(in, name+":x")
		back = append(back, names[len(names)-1-i]+":1")
		want = append(want, names[len(names)-1-i]+": 1")
	}
	style := strings.Join(append(in, back...), ";")
	for range 5 {
		if got := Filter(style, names); got != strings.Join(want, "; ") {
			t.Fatalf("many names: %q", got)
		}
	}
}

// TestInputsStay: props are the same behind a call, and so is what stands
// behind them in their array.
func TestInputsStay(t *testing.T) {
	all := []string{"width", "Color", "", "color", "x"}
	props := all[:4]
	for _, s := range []string{"Color : RED; width:1px;;x; color: blue", "x:1", ":1", ""} {
		if Filter(s, props) != Filter(s, props) {
			t.Errorf("Filter(%q) answers otherwise when asked again", s)
		}
	}
	if !slices.Equal(all, []string{"width", "Color", "", "color", "x"}) {
		t.Errorf("Filter changes props: %q", all)
	}
}

// TestAnswersAreNew: what is told shares no byte with the style, nor with
// props.
func TestAnswersAreNew(t *testing.T) {
	b, p := []byte("ab: cd"), []byte("ab")
	got := Filter(unsafe.String(&b[0], len(b)), []string{unsafe.String(&p[0], len(p))})
	for i := range b {
		b[i] = 'z'
	}
	for i := range p {
		p[i] = 'z'
	}
	if got != "ab: cd" {
		t.Errorf("an answer shares bytes: %q", got)
	}
}
