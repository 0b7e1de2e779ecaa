package url

import (
	"regexp"
	"slices"
	"strings"
	"testing"
)

// What follows is the chapter's section Promises: each byte of a bare place by
// what stands around it, and the rest as expressions.

var (
	withScheme = regexp.MustCompile(`^([a-zA-Z][a-zA-Z0-9+.-]*):`)
	leadsAway  = regexp.MustCompile(`^//|[\x00-\x1f\\\x7f]`)
)

func modelBare(s string) string {
	var out []byte
	above := func(c byte) bool { return c > 32 }
	for i, c := range []byte(s) {
		front := !slices.ContainsFunc([]byte(s[:i+1]), above)
		end := !slices.ContainsFunc([]byte(s[i:]), above)
		if !front && !end && c != 9 && c != 10 && c != 13 {
			out = append(out, c)
		}
	}
	return string(out)
}

func modelScheme(s string) (string, bool) {
	m := withScheme.FindStringSubmatch(modelBare(s))
	if m == nil {
		return "", false
	}
	return strings.ToLower(m[1]), true
}

func modelAllowed(s string, schemes []string) bool {
	if scheme, has := modelScheme(s); has {
		return slices.Contains(schemes, scheme)
	}
	return !leadsAway.MatchString(modelBare(s))
}

// turned is a text with its letters all great, or all small, or each the other
// one; those of other alphabets are as they are.
func turned(s string, great, small bool) string {
	b := []byte(s)
	for i, c := range b {
		switch {
		case great && 'a' <= c && c <= 'z':
			b[i] = c - 32
		case small && 'A' <= c && c <= 'Z':
			b[i] = c + 32
		}
	}
	return string(b)
}

// lists are schemes, each with those of the one ahead and more.
var lists = [][]string{nil, {"a"}, {"a", "A"}, {"", "a", "A", "a+"}, {"", "b", "a", "A", "a+", "a-", "a.", "a0"}, {"z", "ab", "", "b", "a", "A", "a+", "a-", "a.", "a0", "https"}}

// checkModel holds all calls at a place against the chapter's words.
func checkModel(t *testing.T, s string) {
	if got, want := Bare(s), modelBare(s); got != want {
		t.Fatalf("Bare(%q) is %q, not %q", s, got, want)
	}
	want, has := modelScheme(s)
	if got, is := Scheme(s); got != want || is != has {
		t.Fatalf("Scheme(%q) is %q, %v, not %q", s, got, is, want)
	}
	for _, schemes := range append([][]string{{want}, {"x", want}, {want, "x"}, {want + "x"}}, lists...) {
		if got, want := Allowed(s, schemes...), modelAllowed(s, schemes); got != want {
			t.Fatalf("Allowed(%q, %q) is %v", s, schemes, got)
		}
	}
}

// checkTheorem asks P6.4 of a place.
func checkTheorem(t *testing.T, s string) {
	scheme, has := Scheme(s)
	same := func(other string) {
		if got, is := Scheme(other); got != scheme || is != has {
			t.Fatalf("Scheme(%q) is %q, %v, but Scheme(%q) is %q, %v", s, scheme, has, other, got, is)
		}
	}
	bare := Bare(s)
	if again := Bare(bare); again != bare {
		t.Fatalf("Bare(%q) is %q, and of it %q", s, bare, again)
	}
	for _, other := range []string{bare, "\x00 \x1f\t" + s + "\x00 \x1f\t", strings.Join(strings.Split(s, ""), "\t\r\n")} {
		same(other)
		if Allowed(other, "a", "ab") != Allowed(s, "a", "ab") {
			t.Fatalf("Allowed tells %q from %q", s, other)
		}
	}
	same(turned(s, true, false))
	same(turned(s, false, true))
	same(turned(s, true, true))
	for i, schemes := range lists[1:] {
		if Allowed(s, lists[i]...) && !Allowed(s, schemes...) {
			t.Fatalf("%q is allowed by %q, but not by %q", s, lists[i], schemes)
		}
		if Allowed(s, schemes...) && !Allowed(s, append([]string{"x"}, schemes...)...) {
			t.Fatalf("%q is allowed by %q, but not with x ahead", s, schemes)
		}
	}
}

func check(t *testing.T, s string) {
	checkModel(t, s)
	checkTheorem(t, s)
}

// checkAll checks all texts that are s and at most so many bytes more.
func checkAll(t *testing.T, s string, more int, of string) {
	check(t, s)
	if more == 0 {
		return
	}
	for i := range len(of) {
		checkAll(t, s+of[i:i+1], more-1, of)
	}
}

func allBytes() string {
	var b [256]byte
	for i := range b {
		b[i] = byte(i)
	}
	return string(b[:])
}

func TestAllShortPlaces(t *testing.T) {
	checkAll(t, "", 1, allBytes())
	checkAll(t, "", 6, "aB:/\t ")
	checkAll(t, "", 4, "\x00\n\r \x1f!aZ0+:/")
	checkAll(t, "", 3, "\x00\x08\x09\x0a\x0b\x0c\x0d\x0e\x1f !*+,-./09:;@AZ[\\]`az{\x7e\x7f\x80\xa0\xc2\xff")
}

// TestAllPairs: all two bytes, alone and within places.
func TestAllPairs(t *testing.T) {
	all := allBytes()
	for i := range len(all) {
		for j := range len(all) {
			two := all[i:i+1] + all[j:j+1]
			for _, s := range []string{two, two + ":", "a" + two + ":b", "/" + two + "/"} {
				checkModel(t, s)
			}
		}
	}
}

// TestBytesInPlaces: every byte at every place of some places, instead of the
// one there, and beside it.
func TestBytesInPlaces(t *testing.T) {
	for _, s := range []string{"https://x", " Java\tScript:x", "/a:b", "//x", "#a", "a+1.-:", `\\x`, "a/b?c=d#e", "\x00\x1fdata:x ", "mailto:a@b"} {
		for i := range len(s) + 1 {
			for b := range 256 {
				c := string([]byte{byte(b)})
				check(t, s[:i]+c+s[i:])
				if i < len(s) {
					check(t, s[:i]+c+s[i+1:])
				}
			}
		}
	}
}

func FuzzTexts(f *testing.F) {
	for _, s := range []string{"", " Java\tScript:x", "/a:b", "/a", "//x", "HTTPS:x", "a\x7f", `\\x`, "a\x00:b", "\xff:"} {
		f.Add(s)
	}
	f.Fuzz(check)
}
