package utf

import (
	"math"
	"strings"
	"testing"
)

// The tests of ordinary inputs, and of the edges that the chapter names, say
// what they want byte by byte. Those in model_test.go hold the package against
// the chapter's words, at many texts.

func TestValid(t *testing.T) {
	for _, s := range []string{
		"", "a", "\x00", "\r", "\x7f", "aé€😀",
		"\xc2\x80", "\xdf\xbf",
		"\xe0\xa0\x80", "\xe0\xbf\xbf", "\xe1\x80\x80", "\xec\xbf\xbf",
		"\xed\x80\x80", "\xed\x9f\xbf", "\xee\x80\x80", "\xef\xbf\xbf",
		"\xf0\x90\x80\x80", "\xf0\xbf\xbf\xbf", "\xf1\x80\x80\x80", "\xf3\xbf\xbf\xbf",
		"\xf4\x80\x80\x80", "\xf4\x8f\xbf\xbf",
		"\xef\xbf\xbd", "a\xef\xbf\xbdb",
	} {
		if !Valid(s) {
			t.Errorf("Valid(%q) is false", s)
		}
	}
}

func TestValidWrong(t *testing.T) {
	for _, s := range []string{
		"\x80", "\xbf", "\xc0\x80", "\xc1\xbf", "\xf5\x80\x80\x80", "\xff", "\xfe",
		"\xc2", "\xc2\x7f", "\xc2\xc0", "\xc2a", "\xdf\xbf\xbf",
		"\xe0\x9f\xbf", "\xe0\x80\x80", "\xed\xa0\x80", "\xed\xbf\xbf",
		"\xe2\x82", "\xe2\x82a", "\xe2\x82\xc0", "\xe2\x7f\x80", "\xe2\xc0\x80",
		"\xf0\x8f\xbf\xbf", "\xf4\x90\x80\x80", "\xf4\xbf\xbf\xbf",
		"\xf0\x9f\x98", "\xf0\x9f\x98a", "\xf0\x9f\x7f\x80", "\xf1\xc0\x80\x80",
		"abc\xff", "\xffabc", "\uFFFD\xff", "\xff\uFFFD", "\xef\xbf", "\xef\xbf\xbd\xbd",
	} {
		if Valid(s) {
			t.Errorf("Valid(%q) is true", s)
		}
	}
}

func TestMany(t *testing.T) {
	for _, c := range []struct {
		in   string
		want int
	}{
		{"", 0}, {"a", 1}, {"aé€😀", 4}, {"\x00\r\n", 3}, {"\uFFFD", 1},
		{"\xffa", 2}, {"\xe2\x82", 2}, {"\xe2\x82a", 3}, {"\xed\xa0\x80", 3},
		{"\xf0\x9f\x98", 3}, {"\xf4\x90\x80\x80", 4}, {"\xc2\xc2\x80", 2}, {"\xef\xbfé", 3},
	} {
		if n := Many(c.in); n != c.want {
			t.Errorf("Many(%q) is %d, not %d", c.in, n, c.want)
		}
	}
}

func TestCut(t *testing.T) {
	for _, c := range []struct {
		in   string
		n    int
		want string
	}{
		{"aé", 0, ""}, {"aé", 1, "a"}, {"aé", 2, "a"}, {"aé", 3, "aé"}, {"aé", 4, "aé"},
		{"aé", -1, ""}, {"aé", math.MinInt, ""}, {"aé", math.MaxInt, "aé"},
		{"", 0, ""}, {"", -1, ""}, {"", 5, ""},
		{"é", 1, ""}, {"€a", 2, ""}, {"€a", 3, "€"}, {"😀", 3, ""}, {"😀", 4, "😀"},
		{"a\uFFFD", 3, "a"}, {"a\uFFFD", 4, "a\uFFFD"},
		{"\xe2\x82", 1, "\xe2"}, {"\xe2\x82", 2, "\xe2\x82"}, {"\xe2\x82a", 2, "\xe2\x82"},
		{"\xff\xff\xff", 2, "\xff\xff"}, {"a\r\nb", 2, "a\r"},
		// A character that is too long ends it, though shorter ones follow.
		{"€aaa", 2, ""},
	} {
		if s := Cut(c.in, c.n); s != c.want {
			t.Errorf("Cut(%q, %d) is %q, not %q", c.in, c.n, s, c.want)
		}
	}
}

func TestFix(t *testing.T) {
	for _, c := range []struct{ in, want string }{
		{"", ""}, {"abc", "abc"}, {"aé€😀", "aé€😀"}, {"\t\n\x7f", "\t\n\x7f"},
		{"\x00", "\uFFFD"}, {"a\x00\x00b", "a\uFFFD\uFFFDb"},
		{"a\r\nb", "a\nb"}, {"a\rb", "a\nb"}, {"a\nb", "a\nb"}, {"\r", "\n"}, {"\n\r", "\n\n"},
		{"\r\r", "\n\n"}, {"\r\n\n", "\n\n"}, {"\r\r\n\n", "\n\n\n"}, {"\r\n\r\n", "\n\n"},
		{"\r\xff\n", "\n\uFFFD\n"}, {"\r\x00\n", "\n\uFFFD\n"}, {"\ra\n", "\na\n"},
		{"a\r\n\xff", "a\n\uFFFD"},
		{"\xff", "\uFFFD"}, {"\xe2\x82", "\uFFFD\uFFFD"}, {"\xe2\x82a", "\uFFFD\uFFFDa"},
		{"\xe2\r\n", "\uFFFD\n"}, {"\xed\xa0\x80", "\uFFFD\uFFFD\uFFFD"},
		{"\xc0\x80", "\uFFFD\uFFFD"}, {"\xf4\x90\x80\x80", "\uFFFD\uFFFD\uFFFD\uFFFD"},
		{"\xf0\x9f\x98é", "\uFFFD\uFFFD\uFFFDé"},
		{"\uFFFD", "\uFFFD"}, {"\xef\xbf", "\uFFFD\uFFFD"}, {"\uFEFFa\u2028b", "\uFEFFa\u2028b"},
	} {
		if s := Fix([]byte(c.in)); s != c.want {
			t.Errorf("Fix(%q) is %q, not %q", c.in, s, c.want)
		}
	}
	if s := Fix(nil); s != "" {
		t.Errorf("Fix(nil) is %q", s)
	}
}

func TestFixLeavesBytes(t *testing.T) {
	b := []byte("a\r\n\x00\xff")
	s := Fix(b)
	if string(b) != "a\r\n\x00\xff" {
		t.Errorf("the bytes were changed: %q", b)
	}
	for i := range b {
		b[i] = 'x'
	}
	if s != "a\n\uFFFD\uFFFD" {
		t.Errorf("the text shares the bytes: %q", s)
	}
}

func TestLower(t *testing.T) {
	for _, c := range []struct{ in, want string }{
		{"", ""}, {"AbÉ", "abÉ"}, {"AZaz", "azaz"}, {"@[`{", "@[`{"}, {"\x00A\r\n", "\x00a\r\n"},
		// Letters beyond the 26 stay, even those whose small form is one of them.
		{"ÀŞΩЖİ\u212A", "ÀŞΩЖİ\u212A"},
		{"\xffA\xe2\x82Z", "\xffa\xe2\x82z"}, {"\xc1A", "\xc1a"}, {"\xe2A\x82", "\xe2a\x82"},
		{"\uFFFDA", "\uFFFDa"},
	} {
		if s := Lower(c.in); s != c.want {
			t.Errorf("Lower(%q) is %q, not %q", c.in, s, c.want)
		}
	}
}

func TestLongTexts(t *testing.T) {
	const many = 100000
	s := strings.Repeat("A€\xff\r\n", many)
	if n := Many(s); n != 5*many {
		t.Errorf("Many is %d", n)
	}
	if Fix([]byte(s)) != strings.Repeat("A€\uFFFD\n", many) {
		t.Error("Fix")
	}
	if Lower(s) != strings.Repeat("a€\xff\r\n", many) {
		t.Error("Lower")
	}
	if Cut(s, len(s)-5) != s[:len(s)-6] {
		t.Error("Cut")
	}
	if Valid(s) || !Valid(strings.Repeat("A€\r\n", many)) {
		t.Error("Valid")
	}
}
