package utf

import (
	"strings"
	"testing"
)

// What follows is the chapter's section Words, byte by byte and with nothing
// of the language's own reading of texts, so that both are held against each
// other.

func goesOn(c byte) bool { return 0x80 <= c && c <= 0xBF }

// secondFits tells whether a right sequence that begins with lead may go on
// with c.
func secondFits(lead, c byte) bool {
	switch lead {
	case 0xE0:
		return goesOn(c) && c >= 0xA0
	case 0xED:
		return goesOn(c) && c < 0xA0
	case 0xF0:
		return goesOn(c) && c >= 0x90
	case 0xF4:
		return goesOn(c) && c < 0x90
	}
	return goesOn(c)
}

// sequence is how many bytes the right sequence has with which s begins; 0: it
// begins with none.
func sequence(s string) int {
	n := 0
	switch c := s[0]; {
	case c < 0x80:
		return 1
	case 0xC2 <= c && c <= 0xDF:
		n = 2
	case 0xE0 <= c && c <= 0xEF:
		n = 3
	case 0xF0 <= c && c <= 0xF4:
		n = 4
	}
	if n == 0 || len(s) < n || !secondFits(s[0], s[1]) {
		return 0
	}
	for i := 2; i < n; i++ {
		if !goesOn(s[i]) {
			return 0
		}
	}
	return n
}

// characters are those of a text, and whether all of them are right.
func characters(s string) ([]string, bool) {
	var out []string
	all := true
	for len(s) > 0 {
		n := sequence(s)
		if n == 0 {
			all, n = false, 1
		}
		out = append(out, s[:n])
		s = s[n:]
	}
	return out, all
}

func modelFix(chars []string) string {
	var out strings.Builder
	for _, c := range chars {
		if sequence(c) == 0 || c == "\x00" {
			c = "\xEF\xBF\xBD"
		}
		out.WriteString(c)
	}
	return strings.ReplaceAll(strings.ReplaceAll(out.String(), "\r\n", "\n"), "\r", "\n")
}

func modelLower(s string) string {
	b := []byte(s)
	for i, c := range b {
		if 65 <= c && c <= 90 {
			b[i] = c + 32
		}
	}
	return string(b)
}

func modelCut(chars []string, n int) string {
	out := ""
	for _, c := range chars {
		if len(out)+len(c) > n {
			break
		}
		out += c
	}
	return out
}

// checkModel holds all calls at a text against the chapter's words.
func checkModel(t *testing.T, s string) {
	chars, all := characters(s)
	if Valid(s) != all {
		t.Fatalf("Valid(%q) is %v", s, !all)
	}
	if n := Many(s); n != len(chars) {
		t.Fatalf("Many(%q) is %d, not %d", s, n, len(chars))
	}
	if got, want := Fix([]byte(s)), modelFix(chars); got != want {
		t.Fatalf("Fix(%q) is %q, not %q", s, got, want)
	}
	if got, want := Lower(s), modelLower(s); got != want {
		t.Fatalf("Lower(%q) is %q, not %q", s, got, want)
	}
	for n := -1; n <= len(s)+1; n++ {
		if got, want := Cut(s, n), modelCut(chars, n); got != want {
			t.Fatalf("Cut(%q, %d) is %q, not %q", s, n, got, want)
		}
	}
}

// checkTheorem asks P1.4 of a text.
func checkTheorem(t *testing.T, s string) {
	f := Fix([]byte(s))
	if !Valid(f) || strings.ContainsAny(f, "\x00\r") {
		t.Fatalf("Fix(%q) is %q: wrong, or with a byte 0 or 13", s, f)
	}
	if again := Fix([]byte(f)); again != f {
		t.Fatalf("Fix(%q) is %q, and fixed again %q", s, f, again)
	}
	if Valid(s) && !strings.ContainsAny(s, "\x00\r") && f != s {
		t.Fatalf("Fix(%q) is %q, though it was right", s, f)
	}
	for n := -1; n <= len(s)+1; n++ {
		c := Cut(s, n)
		if !strings.HasPrefix(s, c) || Many(c)+Many(s[len(c):]) != Many(s) {
			t.Fatalf("Cut(%q, %d) is %q: no beginning, or within a character", s, n, c)
		}
	}
}

func check(t *testing.T, s string) {
	checkModel(t, s)
	checkTheorem(t, s)
}

// edges are the bytes at which the chapter's words turn.
const edges = "\x00\n\rAZ\x7f\x80\x8f\x90\x9f\xa0\xbd\xbf\xc1\xc2\xdf\xe0\xe1\xed\xef\xf0\xf1\xf4\xf5\xff"

// checkAll checks all texts that are s and at most so many bytes more.
func checkAll(t *testing.T, s string, more int, of string) {
	check(t, s)
	if more == 0 {
		return
	}
	for i := 0; i < len(of); i++ {
		checkAll(t, s+of[i:i+1], more-1, of)
	}
}

func allBytes() string {
	var b [256]byte
	for i := range b {
		b[i] = byte(i)
	}
	return string(b[:])
}

func TestAllShortTexts(t *testing.T) {
	checkAll(t, "", 2, allBytes())
	checkAll(t, "", 4, edges)
}

// TestAllBeginnings: all first and second bytes, with what may go on behind
// them, alone and with a text around.
func TestAllBeginnings(t *testing.T) {
	all := allBytes()
	for i := range len(all) {
		for j := range len(all) {
			two := all[i:i+1] + all[j:j+1]
			for _, rest := range []string{"\x80", "\xbf", "\x80\xbf", "\xbf\x80", "\x80\x80\x80", "\x7f\x80", "\x80\xc0"} {
				check(t, two+rest)
				check(t, "é"+two+rest+"\r\nA")
			}
		}
	}
}

func FuzzTexts(f *testing.F) {
	for _, s := range []string{"", "a\r\n\x00\xff", "aé€😀\uFFFD", "\xe2\x82", "\xed\xa0\x80", "\xf4\x90\x80\x80"} {
		f.Add(s)
	}
	f.Fuzz(check)
}
