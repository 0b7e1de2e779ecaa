package digest

import (
	"fmt"
	"math"
	"slices"
	"strings"
	"testing"
	"unsafe"

	"verso/api"
)

// The tests of ordinary inputs, and of the edges that the chapter names, say
// what they want one by one. Those in model_test.go hold the package against
// the chapter's words, at many lists.

// words are the texts of a line, with a blank between two.
func words(s string) []string { return strings.Fields(s) }

// numbered are n texts that rise.
func numbered(n int) []string {
	var out []string
	for i := range n {
		out = append(out, fmt.Sprintf("%06d", i))
	}
	return out
}

// turned is a list from its end on.
func turned(l []string) []string {
	out := slices.Clone(l)
	slices.Reverse(out)
	return out
}

func wantLacks(t *testing.T, has, other, want []string) {
	t.Helper()
	if got := Lacks(has, other); !slices.Equal(got, want) {
		t.Errorf("Lacks(%.200q, %.200q) is %.200q, not %.200q", has, other, got, want)
	}
}

func wantJoin(t *testing.T, a, b, want []string) {
	t.Helper()
	if got := Join(a, b); !slices.Equal(got, want) {
		t.Errorf("Join(%.200q, %.200q) is %.200q, not %.200q", a, b, got, want)
	}
}

func wantShort(t *testing.T, l []string, sizes []int, most int, want []string) {
	t.Helper()
	if got := Short(l, sizes, most); !slices.Equal(got, want) {
		t.Errorf("Short(%.200q, %.200v, %d) is %.200q, not %.200q", l, sizes, most, got, want)
	}
}

func TestLacks(t *testing.T) {
	for _, c := range []struct{ has, other, want string }{
		// The chapter's own.
		{"a c", "c b a d", "b d"},
		{"", "", ""},
		{"", "a", "a"},
		{"a", "", ""},
		{"a", "a", ""},
		{"a", "b", "b"},
		{"b", "a", "a"},
		{"a b c", "", ""},
		{"", "c b a", "a b c"},
		{"", "a b c", "a b c"},
		{"b", "a b c", "a c"},
		{"a b", "b c", "c"},
		{"b c", "a b", "a"},
		{"c b a", "a b c", ""},
		{"a b c", "b", ""},
		{"x y z", "c a b", "a b c"},
		// What is there more than once, in one list or in both.
		{"", "a a", "a"},
		{"", "b a b a b", "a b"},
		{"a a", "a", ""},
		{"a a", "a a a", ""},
		{"a", "b a b a", "b"},
		{"a a b", "a c c b c", "c"},
		{"c c", "a b a", "a b"},
		// A text that only begins with another one, or is one in other letters.
		{"a", "aa A ab", "A aa ab"},
		{"aa", "a", "a"},
		{"ab", "a b ba", "a b ba"},
		{"A", "a", "a"},
		{"1", "01 1.0 +1", "+1 01 1.0"},
	} {
		wantLacks(t, words(c.has), words(c.other), words(c.want))
	}
}

func TestJoin(t *testing.T) {
	for _, c := range []struct{ a, b, want string }{
		// The chapter's own.
		{"b a", "a", "a b"},
		{"", "", ""},
		{"a", "", "a"},
		{"", "a", "a"},
		{"a", "a", "a"},
		{"a", "b", "a b"},
		{"b", "a", "a b"},
		{"c b a", "", "a b c"},
		{"", "c b a", "a b c"},
		{"a c e", "b d f", "a b c d e f"},
		{"f d b", "e c a", "a b c d e f"},
		{"a b", "b c", "a b c"},
		{"a b c", "c b a", "a b c"},
		{"c", "a b", "a b c"},
		// What is there more than once, in one list or in both.
		{"a a", "", "a"},
		{"", "a a", "a"},
		{"b a b", "a b a", "a b"},
		{"a a c", "c c b b", "a b c"},
		{"b a b", "a 0", "0 a b"},
		// A text that only begins with another one, or is one in other letters.
		{"a", "aa A ab", "A a aa ab"},
		{"aa", "a", "a aa"},
		{"1 01", "1.0", "01 1 1.0"},
	} {
		wantJoin(t, words(c.a), words(c.b), words(c.want))
	}
}

// TestNone: no texts, nil or empty, are the same, and the text without bytes is
// one.
func TestNone(t *testing.T) {
	for _, none := range [][]string{nil, {}, numbered(3)[:0]} {
		for _, other := range [][]string{nil, {}} {
			wantLacks(t, none, other, nil)
			wantJoin(t, none, other, nil)
		}
		wantShort(t, none, nil, 9, nil)
		wantShort(t, none, []int{}, 0, nil)
		wantShort(t, none, []int{1, 2}, 9, nil)
		wantShort(t, none, []int{1, 2}, 0, nil)
		wantShort(t, none, []int{-1}, -1, nil)
		wantLacks(t, none, []string{"b", ""}, []string{"", "b"})
		wantLacks(t, []string{"b", ""}, none, nil)
		wantJoin(t, none, []string{"b", ""}, []string{"", "b"})
		wantJoin(t, []string{"b", ""}, none, []string{"", "b"})
	}
	wantLacks(t, []string{""}, []string{"a", "", ""}, []string{"a"})
	wantLacks(t, []string{"a"}, []string{"a", "", ""}, []string{""})
	wantLacks(t, []string{""}, []string{""}, nil)
	wantJoin(t, []string{""}, []string{""}, []string{""})
	for _, sizes := range [][]int{nil, {}, {0}} {
		wantShort(t, []string{""}, sizes, 0, []string{""})
	}
}

// TestBytes: texts rise byte by byte, whatever they would be read as.
func TestBytes(t *testing.T) {
	rising := []string{"", "\x00", "\x00\x00", "\x00a", "\n", " ", " a", "0", "10", "2", "9", "A", "B", "Z", "a", "a\x00", "a b", "a0", "aa", "ab", "b", "z", "~", "\x7f", "\x80", "\xc2", "e\u0301"[1:], "é", "ÿ", "\u0100", "\u20ac", "\ue000", "\ufffd", "\uffff", "\U00010000", "\U0010ffff", "\xff", "\xff\x00", "\xff\xff"}
	slices.SortFunc(rising, func(a, b string) int { return slices.Compare([]byte(a), []byte(b)) })
	wantJoin(t, turned(rising), nil, rising)
	wantJoin(t, nil, turned(rising), rising)
	wantJoin(t, turned(rising), rising, rising)
	wantLacks(t, nil, turned(rising), rising)
	wantLacks(t, rising, turned(rising), nil)
	for i, one := range rising {
		rest := slices.Concat(rising[:i], rising[i+1:])
		wantLacks(t, rest, turned(rising), []string{one})
		wantLacks(t, []string{one}, turned(rising), rest)
		wantJoin(t, []string{one}, turned(rest), rising)
		for _, after := range rising[i+1:] {
			wantJoin(t, []string{after}, []string{one}, []string{one, after})
			wantLacks(t, nil, []string{after, one, after}, []string{one, after})
		}
	}
	for b := range 256 {
		wantJoin(t, []string{string([]byte{byte(b), 0})}, []string{string([]byte{byte(b)})}, []string{string([]byte{byte(b)}), string([]byte{byte(b), 0})})
		if b > 0 {
			wantJoin(t, []string{string([]byte{byte(b)})}, []string{string([]byte{byte(b - 1), 255})}, []string{string([]byte{byte(b - 1), 255}), string([]byte{byte(b)})})
		}
	}
}

func TestShort(t *testing.T) {
	for _, c := range []struct {
		l     string
		sizes []int
		most  int
		want  string
	}{
		// The chapter's own.
		{"aa b cc", []int{2, 1, 2}, 3, "aa b"},
		{"aa b cc", []int{2, 1, 2}, 4, "aa b"},
		{"aa b cc", []int{2, 1, 2}, 5, "aa b cc"},
		{"aa b cc", []int{2, 1, 2}, 6, "aa b cc"},
		{"aa b cc", []int{2, 1, 2}, 2, "aa"},
		{"a", []int{8000}, 8000, "a"},
		{"a b", []int{7999, 1}, 8000, "a b"},
		{"a b", []int{7999, 2}, 8000, "a"},
		{"a b c", []int{7999, 2, 1}, 8000, "a"}, // a beginning: c has room, but b has not
		// The first one always, and no other one with it that is too much.
		{"aa b cc", []int{2, 1, 2}, 1, "aa"},
		{"aa b cc", []int{2, 1, 2}, 0, "aa"},
		{"aa b cc", []int{2, 1, 2}, -1, "aa"},
		{"a", []int{9}, 0, "a"},
		{"a", []int{9}, 8, "a"},
		{"a b", []int{9, 0}, 8, "a"},
		{"a b", []int{9, -9}, 8, "a"},
		{"a b c", []int{9, 0, 0}, 8, "a"},
		{"a b c", []int{9, 1, 1}, 8, "a"},
		{"a b", []int{9}, 8, "a"},
		{"a b", []int{9, 0}, 9, "a b"},
		// Sizes of 0 have room behind as many as most.
		{"a b c", []int{0, 0, 0}, 0, "a b c"},
		{"a b c", []int{0, 1, 0}, 0, "a"},
		{"a b c", []int{0, 0, 1}, 0, "a b"},
		{"a b c", []int{3, 0, 0}, 3, "a b c"},
		{"a b c d", []int{3, 0, 1, 0}, 3, "a b"},
		// Where most is below 0, nothing is at most that.
		{"a b c", []int{0, 0, 0}, -1, "a"},
		{"a b c", nil, -1, "a"},
		{"a b c", []int{-5, -5, -5}, -1, "a"},
		{"a b c", []int{-5, -5, -5}, -15, "a"},
		{"a b c", nil, math.MinInt, "a"},
		{"a b c", []int{math.MinInt, math.MinInt}, math.MinInt, "a"},
		{"a b c", []int{math.MaxInt, 0}, math.MinInt, "a"},
		{"a b c", []int{1, 1}, math.MinInt, "a"},
		// No sizes, or too few, are 0.
		{"a b c", nil, 0, "a b c"},
		{"a b c", []int{}, 0, "a b c"},
		{"a b c", []int{1}, 0, "a"},
		{"a b c", []int{1}, 1, "a b c"},
		{"a b c", []int{1, 1}, 1, "a"},
		{"a b c", []int{1, 1}, 2, "a b c"},
		{"a b c", nil, 9, "a b c"},
		// More sizes than texts tell nothing.
		{"a b", []int{1, 1, 99}, 2, "a b"},
		{"a b", []int{1, 1, 0, 0}, 9, "a b"},
		{"a", []int{1, -1}, 0, "a"},
		// What is below 0 is 0, and takes nothing of what others have.
		{"a b c", []int{-1, -1, -1}, 0, "a b c"},
		{"a b c", []int{-1, 1, 0}, 0, "a"},
		{"a b c", []int{-3, 3, 1}, 3, "a b"},
		{"a b c", []int{3, -3, 1}, 3, "a b"},
		{"a b c", []int{4, -3, 1}, 3, "a"},
		{"a b c", []int{math.MinInt, 3, 1}, 3, "a b"},
		{"a b c", []int{3, math.MinInt, 1}, 3, "a b"},
		{"a b c", []int{3, math.MinInt, math.MinInt}, 3, "a b c"},
		// Together more than an int can hold.
		{"a b", []int{math.MaxInt, 1}, math.MaxInt, "a"},
		{"a b c", []int{math.MaxInt, 0, 1}, math.MaxInt, "a b"},
		{"a b", []int{1, math.MaxInt}, math.MaxInt, "a"},
		{"a b", []int{1, math.MaxInt - 1}, math.MaxInt, "a b"},
		{"a b c d", []int{math.MaxInt, math.MaxInt, math.MaxInt, 4}, math.MaxInt, "a"},
		{"a b", []int{math.MaxInt, math.MaxInt}, 0, "a"},
		{"a b c", []int{math.MaxInt, math.MaxInt, 2}, 0, "a"},
		{"a b c", []int{5, math.MaxInt, math.MaxInt}, 9, "a"},
		{"a b", []int{math.MaxInt - 1, math.MinInt}, math.MaxInt - 1, "a b"},
		{"a", []int{math.MaxInt}, math.MaxInt - 1, "a"},
		// The sizes are those of the list, not of the texts.
		{"aaaaaaaa b", []int{1, 1}, 2, "aaaaaaaa b"},
		{"a b", []int{8, 8}, 15, "a"},
		{"aaaaaaaa b", nil, 0, "aaaaaaaa b"},
		// A beginning, as it is: it neither rises nor has each once.
		{"b a c", []int{1, 1, 1}, 2, "b a"},
		{"a a a", []int{1, 1, 1}, 2, "a a"},
		{"c b a c", nil, 0, "c b a c"},
	} {
		wantShort(t, words(c.l), c.sizes, c.most, words(c.want))
	}
}

// TestShortOfMany: beginnings of all lengths, of as many as there may be.
func TestShortOfMany(t *testing.T) {
	l := turned(numbered(api.MostPosts))
	sizes := slices.Repeat([]int{api.MostRaw}, api.MostPosts)
	for most := range api.MostPosts * api.MostRaw / 100 {
		wantShort(t, l, sizes, most*100, l[:max(1, most*100/api.MostRaw)])
	}
	wantShort(t, l, sizes, api.MostPosts*api.MostRaw, l)
	wantShort(t, l, sizes, api.MostPosts*api.MostRaw-1, l[:api.MostPosts-1])
}

func TestLong(t *testing.T) {
	const many = 1 << 18
	l := numbered(many)
	down := turned(l)
	var even, odd []string
	for i, s := range l {
		if i%2 == 0 {
			even = append(even, s)
		} else {
			odd = append(odd, s)
		}
	}
	wantLacks(t, turned(even), down, odd)
	wantLacks(t, down, down, nil)
	wantLacks(t, nil, slices.Concat(down, down), l)
	wantJoin(t, turned(even), turned(odd), l)
	wantJoin(t, slices.Repeat([]string{"a"}, many), slices.Repeat([]string{"b"}, many), words("a b"))
	wantLacks(t, slices.Repeat([]string{"a"}, many), slices.Repeat([]string{"b"}, many), words("b"))
	ones := slices.Repeat([]int{1}, many)
	for _, most := range []int{1, 2, many - 1, many, many + 1, math.MaxInt} {
		wantShort(t, down, ones, most, down[:min(most, many)])
	}
	wantShort(t, down, nil, 0, down)
	wantShort(t, down, slices.Repeat([]int{math.MaxInt}, many), math.MaxInt, down[:1])
	x := strings.Repeat("x", 1<<20)
	wantLacks(t, []string{x + "a"}, []string{x + "b", x, x + "a"}, []string{x, x + "b"})
	wantJoin(t, []string{x + "b", x}, []string{x + "a"}, []string{x, x + "a", x + "b"})
	wantShort(t, []string{x, x, x}, []int{1, 1, 1}, 2, []string{x, x})
}

// TestSameAgain: of the same lists the same is told, however a map is gone
// through.
func TestSameAgain(t *testing.T) {
	l := numbered(50)
	for range 200 {
		wantJoin(t, turned(l[20:]), l[:30], l)
		wantLacks(t, turned(l[:20]), turned(l), l[20:])
	}
}

// TestInputsStay: lists are the same behind a call, and so is what stands behind
// them in their arrays.
func TestInputsStay(t *testing.T) {
	a, b, sizes := words("c a b a z y"), words("d a d c x w"), []int{2, -1, 0, 9, 7, -7}
	wantA, wantB, wantSizes := slices.Clone(a), slices.Clone(b), slices.Clone(sizes)
	for range 2 {
		wantLacks(t, a[:4], b[:4], words("d"))
		wantLacks(t, b[:4], a[:4], words("b"))
		wantJoin(t, a[:4], b[:4], words("a b c d"))
		wantJoin(t, a[:4], a[2:5], words("a b c z"))
		wantShort(t, a[:4], sizes[:4], 9, words("c a b"))
		wantShort(t, a[:4], sizes[:2], 9, words("c a b a"))
		if !slices.Equal(a, wantA) || !slices.Equal(b, wantB) || !slices.Equal(sizes, wantSizes) {
			t.Fatalf("what was given is changed: %q, %q, %v", a, b, sizes)
		}
	}
}

// TestAnswersAreNew: what is told shares no place and no byte with what was
// given, and nothing with what was told before.
func TestAnswersAreNew(t *testing.T) {
	c := []byte("abc")
	text := unsafe.String(&c[0], len(c))
	given := []string{text, "b"}
	calls := []func() []string{
		func() []string { return Lacks(nil, given) },
		func() []string { return Lacks([]string{"x"}, given) },
		func() []string { return Join(given, nil) },
		func() []string { return Join(nil, given) },
		func() []string { return Join(given, given) },
		func() []string { return Short(given, nil, 0) },
		func() []string { return Short(given[:1], []int{1}, 0) },
	}
	var told [][]string
	for _, call := range calls {
		spoilt := call()
		for i := range spoilt {
			spoilt[i] = "changed"
		}
		_ = append(spoilt, "changed")
		told = append(told, call())
	}
	if given[0] != "abc" || given[1] != "b" {
		t.Errorf("what was given is changed: %q", given)
	}
	c[0] = 'z'
	given[1] = "changed"
	for i, l := range told {
		if l[0] != "abc" || len(l) > 1 && l[1] != "b" {
			t.Errorf("what the call %d told is shared: %q", i, l)
		}
	}
}
