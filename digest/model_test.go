package digest

import (
	"math"
	"math/big"
	"slices"
	"strings"
	"testing"
)

// What follows is the chapter's section Promises, in other words than the
// package's: without a map, and with numbers that nothing is too large for.

// onceBy are those of a list for which want holds, laid one by one at their
// places.
func onceBy(l []string, want func(s string) bool) []string {
	var out []string
	for _, s := range l {
		place, there := slices.BinarySearchFunc(out, s, strings.Compare)
		if want(s) && !there {
			out = slices.Insert(out, place, s)
		}
	}
	return out
}

func lacksBy(has, other []string) []string {
	return onceBy(other, func(s string) bool { return !slices.Contains(has, s) })
}

func joinBy(a, b []string) []string {
	return onceBy(slices.Concat(b, a), func(string) bool { return true })
}

// shortBy tries all beginnings, the longest first.
func shortBy(l []string, sizes []int, most int) []string {
	for n := len(l); n > 1; n-- {
		sum := new(big.Int)
		for i := range n {
			if i < len(sizes) && sizes[i] > 0 {
				sum.Add(sum, big.NewInt(int64(sizes[i])))
			}
		}
		if sum.Cmp(big.NewInt(int64(most))) <= 0 {
			return l[:n]
		}
	}
	return l[:min(1, len(l))]
}

// checkPair holds Lacks and Join at two lists against the chapter's words, and
// asks the theorem of them.
func checkPair(t *testing.T, has, other []string) {
	t.Helper()
	lacks, join := Lacks(has, other), Join(has, other)
	if want := lacksBy(has, other); !slices.Equal(lacks, want) {
		t.Fatalf("Lacks(%q, %q) is %q, not %q", has, other, lacks, want)
	}
	if want := joinBy(has, other); !slices.Equal(join, want) {
		t.Fatalf("Join(%q, %q) is %q, not %q", has, other, join, want)
	}
	// What is lacked, joined to what is had, is what is joined of both.
	for _, both := range [][]string{Join(has, lacks), Join(lacks, has), Join(other, has), Join(join, lacks)} {
		if !slices.Equal(both, join) {
			t.Fatalf("of %q and %q, which lacks %q, %q is joined", has, other, lacks, both)
		}
	}
	// Nothing is lacked of itself, nor when what is lacked was told.
	for _, none := range [][]string{Lacks(has, has), Lacks(other, other), Lacks(join, has), Lacks(join, other), Lacks(Join(has, lacks), other)} {
		if len(none) != 0 {
			t.Fatalf("of %q and %q %q is lacked though it is there", has, other, none)
		}
	}
	// What is lacked is not had.
	for _, s := range lacks {
		if slices.Contains(has, s) || !slices.Contains(other, s) {
			t.Fatalf("Lacks(%q, %q) has %q", has, other, s)
		}
	}
	if again := Lacks(has, lacks); !slices.Equal(again, lacks) {
		t.Fatalf("Lacks(%q, %q) is %q", has, lacks, again)
	}
}

func checkShort(t *testing.T, l []string, sizes []int, most int) {
	t.Helper()
	if got, want := Short(l, sizes, most), shortBy(l, sizes, most); !slices.Equal(got, want) {
		t.Fatalf("Short(%q, %v, %d) is %q, not %q", l, sizes, most, got, want)
	}
}

// listsOf are all lists of at most so many of some things.
func listsOf[T any](of []T, many int) [][]T {
	all := [][]T{nil}
	for from := 0; many > 0; many-- {
		to := len(all)
		for _, list := range all[from:to] {
			for _, one := range of {
				all = append(all, append(slices.Clone(list), one))
			}
		}
		from = to
	}
	return all
}

// TestAllShortLists: all pairs of short lists of some texts, and of longer ones
// of fewer.
func TestAllShortLists(t *testing.T) {
	for _, c := range []struct {
		of   []string
		many int
	}{{[]string{"", "a", "aa", "b", "\xff"}, 3}, {[]string{"b", "a", "ab"}, 5}} {
		lists := listsOf(c.of, c.many)
		for _, has := range lists {
			for _, other := range lists {
				checkPair(t, has, other)
			}
		}
	}
}

// TestAllShortSizes: all short lists of sizes, by lists that have as many, fewer
// or more, and by all that may count as most.
func TestAllShortSizes(t *testing.T) {
	texts := []string{"b", "", "aaa", "b", "c", "a"}
	for _, c := range []struct {
		of, most []int
		many     int
	}{
		{[]int{-2, 0, 1, 2, 5}, []int{-3, -2, -1, 0, 1, 2, 3, 4, 5, 6, 7, 8, 10, 11, 25, 26}, 5},
		{[]int{math.MinInt, -1, 0, 1, math.MaxInt - 1, math.MaxInt}, []int{math.MinInt, math.MinInt + 1, -2, -1, 0, 1, 2, math.MaxInt - 1, math.MaxInt}, 4},
	} {
		for _, sizes := range listsOf(c.of, c.many) {
			for n := range len(texts) + 1 {
				for _, most := range c.most {
					checkShort(t, texts[:n], sizes, most)
				}
			}
		}
	}
}

func FuzzTexts(f *testing.F) {
	for _, s := range []string{"", "a", "a,c;c,b,a,d", "b,a;a", ";a,a", "a,a;", ",;,", "aa,b,cc;b", "\xff,\x00;\xff\xff"} {
		f.Add(s, 1, 2, 3)
	}
	f.Add("aa,b,cc", 2, 1, 4)
	f.Add("a,b,c", math.MaxInt, 1, math.MaxInt)
	f.Add("a,b,c;d", math.MinInt, -1, -1)
	f.Fuzz(func(t *testing.T, s string, first, second, most int) {
		a, b, _ := strings.Cut(s, ";")
		has, other := strings.Split(a, ","), strings.Split(b, ",")
		checkPair(t, has, other)
		checkPair(t, other, has)
		for _, sizes := range [][]int{nil, {first}, {first, second}, {second, first, second, first}, {len(a), first, len(b), second}} {
			checkShort(t, has, sizes, most)
			checkShort(t, Join(has, other), sizes, most)
		}
	})
}
