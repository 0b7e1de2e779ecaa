package chain

import (
	"slices"
	"strings"
	"testing"

	"verso/api"
	"verso/policy"
)

// What follows is the chapter's section Promises: all faults are gathered, each
// with its place and its rank, and the first one is told. What may be and what
// is stricter is asked of package policy, whose own tests hold it.

type found struct {
	number int
	e      api.Errno
}

// faults are all faults of a list: those of the first policy first, and of one
// policy in the order in which they are named.
func faults(l []api.Policy) []found {
	var all []found
	for i, p := range l {
		if !policy.Right(p) {
			all = append(all, found{i, api.ErrForm})
		}
		if p.Epoch-1 != i {
			all = append(all, found{i, api.ErrGap})
		}
		if i >= 1 && !policy.Stricter(l[i], l[i-1]) {
			all = append(all, found{i, api.ErrLoose})
		}
	}
	return all
}

func modelCheck(l []api.Policy) (api.Errno, int) {
	all := faults(l)
	if len(all) == 0 {
		return api.OK, -1
	}
	return all[0].e, all[0].number
}

func modelAdd(l []api.Policy, p api.Policy) ([]api.Policy, api.Errno) {
	if e, _ := modelCheck(l); e != api.OK {
		return nil, e
	}
	longer := append(slices.Clone(l), p)
	if e, _ := modelCheck(longer); e != api.OK {
		return nil, e
	}
	return longer, api.OK
}

func modelAt(l []api.Policy, epoch int) (api.Policy, bool) {
	i := slices.IndexFunc(l, func(p api.Policy) bool { return p.Epoch == epoch })
	if i < 0 {
		return api.Policy{}, false
	}
	return l[i], true
}

// checkList holds Check and At at one list against the chapter's words, and
// asks the theorem of it.
func checkList(t *testing.T, l []api.Policy) {
	t.Helper()
	e, number := Check(l)
	if wantE, wantN := modelCheck(l); e != wantE || number != wantN {
		t.Fatalf("Check(%+v) is %v, %d; not %v, %d", l, e, number, wantE, wantN)
	}
	for epoch := -1; epoch <= len(l)+2; epoch++ {
		got, is := At(l, epoch)
		if want, wantIs := modelAt(l, epoch); is != wantIs || !same(got, want) {
			t.Fatalf("At(%+v, %d) is %+v, %v", l, epoch, got, is)
		}
	}
	if e == api.OK {
		checkChain(t, l)
	}
}

// checkChain asks the theorem: all beginnings are chains, each policy is
// stricter than all ahead, and epochs are numbers.
func checkChain(t *testing.T, l []api.Policy) {
	t.Helper()
	for i, p := range l {
		if e, n := Check(l[:i]); e != api.OK || n != -1 {
			t.Fatalf("%+v is no chain: %v, %d", l[:i], e, n)
		}
		for _, q := range l[:i] {
			if !policy.Stricter(p, q) {
				t.Fatalf("in %+v the policy %d is not stricter than %+v", l, i, q)
			}
		}
		if got, is := At(l, i+1); !is || !same(got, p) {
			t.Fatalf("At(%+v, %d) is %+v, %v", l, i+1, got, is)
		}
	}
	for _, epoch := range []int{-1, 0, len(l) + 1} {
		if p, is := At(l, epoch); is {
			t.Fatalf("At(%+v, %d) is %+v", l, epoch, p)
		}
	}
}

// checkAdd holds Add against the chapter's words.
func checkAdd(t *testing.T, l []api.Policy, p api.Policy) {
	t.Helper()
	got, e := Add(l, p)
	want, wantE := modelAdd(l, p)
	if e != wantE || !sameAll(got, want) {
		t.Fatalf("Add(%+v, %+v) is %+v, %v; not %v", l, p, got, e, wantE)
	}
	if e == api.OK {
		checkChain(t, got)
	}
}

// checkAll holds the calls against the chapter's words at all lists of at most
// so many of some policies.
func checkAll(t *testing.T, of []api.Policy, most int) {
	t.Helper()
	var all func(l []api.Policy)
	all = func(l []api.Policy) {
		checkList(t, l)
		for _, p := range of {
			checkAdd(t, l, p)
			if len(l) < most {
				all(append(slices.Clone(l), p))
			}
		}
	}
	all(nil)
}

// TestAllShortLists: policies that may be and that may not, of which some are
// stricter than others and some are not.
func TestAllShortLists(t *testing.T) {
	var of []api.Policy
	for epoch := 1; epoch <= 3; epoch++ {
		of = append(of, least(epoch), full(epoch), change(full(epoch), func(p *api.Policy) { p.Schemes = p.Schemes[1:] }), change(least(epoch), func(p *api.Policy) { p.Depth = 65 }))
	}
	checkAll(t, append(of, api.Policy{}, full(4)), 3)
}

// TestAllAttrs: attributes of all elements and of one, in epochs one behind
// another.
func TestAllAttrs(t *testing.T) {
	var of []api.Policy
	for epoch := 1; epoch <= 4; epoch++ {
		for _, attrs := range [][]string{nil, {"*.x"}, {"a.x"}, {"*.x", "a.x"}} {
			of = append(of, change(least(epoch), func(p *api.Policy) { p.Elems, p.Attrs = []string{"a"}, attrs }))
		}
	}
	checkAll(t, of, 3)
}

// TestAllChains: all lists of five policies whose epochs come one behind the
// other.
func TestAllChains(t *testing.T) {
	lists := [][]string{nil, {"a"}, {"b"}, {"a", "b"}}
	var all func(l []api.Policy)
	all = func(l []api.Policy) {
		checkList(t, l)
		if len(l) == 5 {
			return
		}
		for _, list := range lists {
			for depth := 1; depth <= 2; depth++ {
				p := change(least(len(l)+1), func(p *api.Policy) { p.Classes, p.Depth = list, depth })
				checkAdd(t, l, p)
				all(append(slices.Clone(l), p))
			}
		}
	}
	all(nil)
}

func FuzzTexts(f *testing.F) {
	for _, s := range []string{"", "1", "1 elem a\n2", "1\n2 elem a", "1\n3", "1 elem script", "1 class a class b\n2 class b\n3", "2\n1\n1 prop x", "1 elem a attr *.x\n2 elem a attr a.x"} {
		f.Add(s)
	}
	f.Fuzz(func(t *testing.T, s string) {
		l := policiesOf(s)
		checkList(t, l)
		checkAdd(t, l[:len(l)-1], l[len(l)-1])
		checkAdd(t, l, least(len(l)+1))
	})
}

// policiesOf are policies of a text, one of each line: its first word's digits
// are the epoch, and of the words behind it each pair is a list's, and one of it.
func policiesOf(s string) []api.Policy {
	var l []api.Policy
	for _, line := range strings.Split(s, "\n") {
		words := strings.Split(line, " ")
		p := least(0)
		for _, c := range words[0] {
			p.Epoch = p.Epoch*10 + int(c) - '0'
		}
		for i := 1; i+1 < len(words); i += 2 {
			at := map[string]*[]string{"elem": &p.Elems, "attr": &p.Attrs, "scheme": &p.Schemes, "class": &p.Classes, "prop": &p.Props}[words[i]]
			if at != nil {
				*at = append(*at, words[i+1])
			}
		}
		p.Depth += len(line) % 3
		l = append(l, p)
	}
	return l
}
