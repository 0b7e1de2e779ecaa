package style

import (
	"bytes"
	"regexp"
	"slices"
	"strings"
	"testing"
)

// What follows is the chapter's sections Words and Promises: a value as an
// expression, and each part by those behind it.

var mayStay = regexp.MustCompile(`^[a-z0-9 #%.,-]{1,100}$`)

func modelValue(s string) bool {
	return mayStay.MatchString(s) && s[0] != 32 && s[len(s)-1] != 32
}

// modelPlain is a text without the blanks around it, and in small letters.
func modelPlain(b []byte) string {
	isBlank := func(c byte) bool { return c == 9 || c == 10 || c == 12 || c == 13 || c == 32 }
	for len(b) > 0 && isBlank(b[0]) {
		b = b[1:]
	}
	for len(b) > 0 && isBlank(b[len(b)-1]) {
		b = b[:len(b)-1]
	}
	low := slices.Clone(b)
	for i, c := range low {
		if 65 <= c && c <= 90 {
			low[i] = c + 32
		}
	}
	return string(low)
}

func modelFilter(s string, props []string) string {
	var names, values []string
	for _, part := range bytes.Split([]byte(s), []byte(";")) {
		colon := bytes.IndexByte(part, ':')
		if colon < 0 {
			continue
		}
		name, value := modelPlain(part[:colon]), modelPlain(part[colon+1:])
		if slices.Index(props, name) >= 0 && modelValue(value) {
			names, values = append(names, name), append(values, value)
		}
	}
	var out []string
	for i, name := range names {
		if !slices.Contains(names[i+1:], name) {
			out = append(out, name+": "+values[i])
		}
	}
	return strings.Join(out, "; ")
}

// named are props that are names; unnamed are those of which the theorem says
// nothing.
var (
	named   = [][]string{nil, {"a"}, {"b", "a"}, {"a", "b", "a-", "ab", "color", "width"}, {"text-align", "color"}}
	unnamed = [][]string{{""}, {"A", "a"}, {"", "a", " ", "a b", "-", "1", "é", "\xff", "<", "\v"}, {"a:", ":", ";", "a;b"}}
)

// checkModel holds both calls at a text against the chapter's words.
func checkModel(t *testing.T, s string) {
	if got, want := Value(s), modelValue(s); got != want {
		t.Fatalf("Value(%q) is %v", s, got)
	}
	for _, props := range slices.Concat(named, unnamed) {
		if got, want := Filter(s, props), modelFilter(s, props); got != want {
			t.Fatalf("Filter(%q, %q) is %q, not %q", s, props, got, want)
		}
	}
}

// checkTheorem asks P7.3 of a style.
func checkTheorem(t *testing.T, s string) {
	for _, props := range named {
		once := Filter(s, props)
		if again := Filter(once, props); again != once {
			t.Fatalf("Filter(%q, %q) is %q, and of it %q", s, props, once, again)
		}
		if strings.ContainsAny(once, "<>\"'`()[]{}\\/") {
			t.Fatalf("Filter(%q, %q) is %q", s, props, once)
		}
	}
}

func check(t *testing.T, s string) {
	checkModel(t, s)
	checkTheorem(t, s)
}

// checkAll checks all texts that are s and at most so many bytes more.
func checkAll(t *testing.T, s string, more int, of string) {
	check(t, s)
	if more == 0 {
		return
	}
	for i := range len(of) {
		checkAll(t, s+of[i:i+1], more-1, of)
	}
}

func allBytes() string {
	var b [256]byte
	for i := range b {
		b[i] = byte(i)
	}
	return string(b[:])
}

func TestAllShortStyles(t *testing.T) {
	checkAll(t, "", 1, allBytes())
	checkAll(t, "", 7, "a:; ")
	checkAll(t, "", 4, "aB:;\t -(")
	checkAll(t, "a:", 3, "\x00\x08\x09\x0a\x0b\x0c\x0d\x0e\x1f !#%&(),-./09:;@AZ[\\`az{\x7f\x80\xff")
}

// TestAllParts: all styles of at most five of some parts.
func TestAllParts(t *testing.T) {
	parts := []string{"a:1", "A : 2", "b:3", "a:(", "c:4", "b", ""}
	var all func(s string, more int)
	all = func(s string, more int) {
		check(t, s)
		if more == 0 {
			return
		}
		for _, part := range parts {
			all(s+";"+part, more-1)
		}
	}
	for _, part := range parts {
		all(part, 4)
	}
}

// TestAllPairs: all two bytes, around and within names and values.
func TestAllPairs(t *testing.T) {
	all := allBytes()
	for i := range len(all) {
		for j := range len(all) {
			b, c := all[i:i+1], all[j:j+1]
			for _, s := range []string{b + c, b + "a" + c + ":1", "a:" + b + c, "a:" + b + "1" + c, "a:1" + b + c + "b:2"} {
				if got, want := Filter(s, named[3]), modelFilter(s, named[3]); got != want {
					t.Fatalf("Filter(%q) is %q, not %q", s, got, want)
				}
				if got, want := Value(s), modelValue(s); got != want {
					t.Fatalf("Value(%q) is %v", s, got)
				}
			}
		}
	}
}

// TestBytesInStyles: every byte at every place of some styles, instead of the
// one there, and beside it.
func TestBytesInStyles(t *testing.T) {
	for _, s := range []string{"Color : RED; width:1px;;x; color: blue", "color: url(x)", "a: 1; b: 2", "text-align:center;color:#fff", "a:1;a:(;b:2;a:3"} {
		for i := range len(s) + 1 {
			for b := range 256 {
				c := string([]byte{byte(b)})
				check(t, s[:i]+c+s[i:])
				if i < len(s) {
					check(t, s[:i]+c+s[i+1:])
				}
			}
		}
	}
}

// TestLengths: values around the most bytes, with blanks and other bytes at
// their ends.
func TestLengths(t *testing.T) {
	for n := 97; n < 103; n++ {
		for _, front := range []string{"", " ", "\t", "A", "("} {
			for _, end := range []string{"", " ", "\n", "Z", "é"} {
				value := front + strings.Repeat("b", n) + end
				check(t, value)
				check(t, "a:"+value)
				check(t, "a:1;a:"+value+";b:2")
			}
		}
	}
}

func FuzzTexts(f *testing.F) {
	for _, s := range []string{"", "Color : RED; width:1px;;x; color: blue", "color: url(x)", "a:1;a:(;b:2;a:3", "a\t:\n1\v;\xff:2", "::;", "a:" + strings.Repeat("b", 100)} {
		f.Add(s)
	}
	f.Fuzz(check)
}
