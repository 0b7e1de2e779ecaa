package chain

import (
	"fmt"
	"math"
	"reflect"
	"slices"
	"strings"
	"testing"
	"unsafe"

	"verso/api"
	"verso/policy"
)

// The tests of ordinary inputs, and of the edges that the chapter names, say
// what they want one by one. Those in model_test.go hold the package against
// the chapter's words, at many lists of policies.

// least is the policy of an epoch that lets nothing.
func least(epoch int) api.Policy { return api.Policy{Epoch: epoch, Depth: 1, Nodes: 1, Bytes: 1} }

// full is the policy of an epoch with all lists.
func full(epoch int) api.Policy {
	return api.Policy{
		Epoch: epoch, Elems: []string{"a", "b", "p"}, Attrs: []string{"*.class", "a.href", "p.id"}, Schemes: []string{"http", "https"},
		Classes: []string{"mention", "tag"}, Props: []string{"color", "text-align"}, Depth: 9, Nodes: 99, Bytes: 999,
	}
}

// change is a policy with something done to it.
func change(p api.Policy, do func(p *api.Policy)) api.Policy {
	do(&p)
	return p
}

// chainOf is a chain of n, the first of which lets the most.
func chainOf(n int) []api.Policy {
	var l []api.Policy
	for i := range n {
		l = append(l, change(full(i+1), func(p *api.Policy) {
			p.Schemes = p.Schemes[min(i, 2):]
			p.Nodes -= min(i, 90)
		}))
	}
	return l
}

// listsOf are the lists of a policy, for tests that ask all of them.
func listsOf(p *api.Policy) []*[]string {
	return []*[]string{&p.Elems, &p.Attrs, &p.Schemes, &p.Classes, &p.Props}
}

// capsOf are the caps of a policy.
func capsOf(p *api.Policy) []*int { return []*int{&p.Depth, &p.Nodes, &p.Bytes} }

// wrongs are policies of an epoch that may not be.
func wrongs(epoch int) []api.Policy {
	return []api.Policy{
		{}, {Epoch: epoch},
		change(least(epoch), func(p *api.Policy) { p.Depth = 0 }),
		change(least(epoch), func(p *api.Policy) { p.Nodes = 2001 }),
		change(least(epoch), func(p *api.Policy) { p.Bytes = -1 }),
		change(least(epoch), func(p *api.Policy) { p.Elems = []string{"script"} }),
		change(least(epoch), func(p *api.Policy) { p.Elems = []string{"li"} }),
		change(least(epoch), func(p *api.Policy) { p.Attrs = []string{"a.href"} }),
		change(least(epoch), func(p *api.Policy) { p.Schemes = []string{"data"} }),
		change(least(epoch), func(p *api.Policy) { p.Classes = []string{"b", "a"} }),
		change(least(epoch), func(p *api.Policy) { p.Props = []string{""} }),
	}
}

func wantCheck(t *testing.T, l []api.Policy, e api.Errno, number int) {
	t.Helper()
	if gotE, gotN := Check(l); gotE != e || gotN != number {
		t.Errorf("Check(%+v) is %v, %d; not %v, %d", l, gotE, gotN, e, number)
	}
}

// wantAdd asks what Add answers; of a chain, that it is l with p behind.
func wantAdd(t *testing.T, l []api.Policy, p api.Policy, e api.Errno) {
	t.Helper()
	got, gotE := Add(l, p)
	var want []api.Policy
	if e == api.OK {
		want = append(slices.Clone(l), p)
	}
	if gotE != e || !sameAll(got, want) {
		t.Errorf("Add(%+v, %+v) is %+v, %v; not %v", l, p, got, gotE, e)
	}
}

func wantAt(t *testing.T, l []api.Policy, epoch int, want api.Policy, is bool) {
	t.Helper()
	if got, gotIs := At(l, epoch); gotIs != is || !same(got, want) {
		t.Errorf("At(%+v, %d) is %+v, %v", l, epoch, got, gotIs)
	}
}

// same tells whether policies are the same; an empty list is as one that is nil.
func same(p, q api.Policy) bool {
	for _, one := range []*api.Policy{&p, &q} {
		for _, list := range listsOf(one) {
			if len(*list) == 0 {
				*list = nil
			}
		}
	}
	return reflect.DeepEqual(p, q)
}

func sameAll(l, of []api.Policy) bool { return slices.EqualFunc(l, of, same) }

func TestCheck(t *testing.T) {
	wantCheck(t, nil, api.OK, -1)
	wantCheck(t, []api.Policy{}, api.OK, -1)
	wantCheck(t, []api.Policy{least(1)}, api.OK, -1)
	wantCheck(t, []api.Policy{full(1)}, api.OK, -1)
	wantCheck(t, []api.Policy{full(1), least(2)}, api.OK, -1)
	wantCheck(t, []api.Policy{full(1), full(2), full(3)}, api.OK, -1)
	for n := range 200 {
		wantCheck(t, chainOf(n), api.OK, -1)
	}
	// The chapter's own.
	less := change(full(2), func(p *api.Policy) { p.Schemes = []string{"https"} })
	more := change(full(2), func(p *api.Policy) { p.Schemes = []string{"ftp", "http", "https"} })
	wantCheck(t, []api.Policy{full(1), less}, api.OK, -1)
	wantCheck(t, []api.Policy{full(1), full(3)}, api.ErrGap, 1)
	wantCheck(t, []api.Policy{full(1), more}, api.ErrLoose, 1)
}

func TestCheckForm(t *testing.T) {
	for n := range 5 {
		for _, wrong := range wrongs(n + 1) {
			l := append(chainOf(n), wrong)
			wantCheck(t, l, api.ErrForm, n)
			wantCheck(t, append(l, least(n+2)), api.ErrForm, n)
			wantCheck(t, append(l, full(7), wrong), api.ErrForm, n)
		}
	}
}

func TestCheckGap(t *testing.T) {
	for n := range 5 {
		for _, epoch := range []int{1, 2, 3, 4, 5, 6, 7, 1000, 1000000} {
			l := append(chainOf(n), least(epoch))
			e, number := api.ErrGap, n
			if epoch == n+1 {
				e, number = api.OK, -1
			}
			wantCheck(t, l, e, number)
			if epoch != n+1 {
				wantCheck(t, append(l, least(n+2)), api.ErrGap, n)
				wantCheck(t, append(l, least(epoch+1)), api.ErrGap, n)
			}
		}
		// Numbers that no epoch may be are no gap.
		for _, epoch := range []int{math.MinInt, -1, 0, 1000001, math.MaxInt} {
			wantCheck(t, append(chainOf(n), least(epoch)), api.ErrForm, n)
		}
	}
	// An epoch that is there twice, one that lacks, and two that are turned about.
	wantCheck(t, []api.Policy{full(1), full(1)}, api.ErrGap, 1)
	wantCheck(t, []api.Policy{full(1), full(2), full(2), full(3)}, api.ErrGap, 2)
	wantCheck(t, []api.Policy{full(1), full(2), full(4), full(5)}, api.ErrGap, 2)
	wantCheck(t, []api.Policy{full(2), full(1)}, api.ErrGap, 0)
	wantCheck(t, []api.Policy{full(2), full(3)}, api.ErrGap, 0)
	wantCheck(t, []api.Policy{full(1), full(3), full(2)}, api.ErrGap, 1)
}

// TestCheckLoose: one more in each of the lists, and a greater one of each cap.
func TestCheckLoose(t *testing.T) {
	for i := range listsOf(&api.Policy{}) {
		less := change(full(1), func(p *api.Policy) {
			list := listsOf(p)[i]
			*list = (*list)[1:]
			if i == 0 {
				p.Attrs = []string{"*.class", "p.id"}
			}
		})
		wantCheck(t, []api.Policy{full(1), change(less, func(p *api.Policy) { p.Epoch = 2 })}, api.OK, -1)
		wantCheck(t, []api.Policy{less, full(2)}, api.ErrLoose, 1)
		wantCheck(t, []api.Policy{less, full(2), full(3)}, api.ErrLoose, 1)
	}
	for i := range capsOf(&api.Policy{}) {
		less := change(full(2), func(p *api.Policy) { *capsOf(p)[i]-- })
		wantCheck(t, []api.Policy{full(1), less}, api.OK, -1)
		wantCheck(t, []api.Policy{full(1), less, change(less, func(p *api.Policy) { p.Epoch = 3 })}, api.OK, -1)
		wantCheck(t, []api.Policy{full(1), less, full(3)}, api.ErrLoose, 2)
	}
	// What was let once, and was taken away, does not come again.
	wantCheck(t, []api.Policy{full(1), least(2), full(3), least(4)}, api.ErrLoose, 2)
	// An attribute of all elements lets that of one.
	all := change(full(1), func(p *api.Policy) { p.Attrs = []string{"*.href"} })
	one := change(full(2), func(p *api.Policy) { p.Attrs = []string{"a.href"} })
	wantCheck(t, []api.Policy{all, one}, api.OK, -1)
	wantCheck(t, []api.Policy{change(one, func(p *api.Policy) { p.Epoch = 1 }), change(all, func(p *api.Policy) { p.Epoch = 2 })}, api.ErrLoose, 1)
	// The first one is stricter than none, and need not be.
	for _, p := range []api.Policy{least(1), full(1), change(full(1), func(p *api.Policy) { p.Depth, p.Nodes, p.Bytes = 64, 2000, 16384 })} {
		wantCheck(t, []api.Policy{p}, api.OK, -1)
	}
}

// TestCheckOrder: of several faults the first policy's is told, and of its own
// the one that is named first.
func TestCheckOrder(t *testing.T) {
	form := func(epoch int) api.Policy { return change(full(epoch), func(p *api.Policy) { p.Depth = 65 }) }
	// All three, and two of them, at one policy.
	wantCheck(t, []api.Policy{least(1), form(9)}, api.ErrForm, 1)
	wantCheck(t, []api.Policy{least(1), form(2)}, api.ErrForm, 1)
	wantCheck(t, []api.Policy{full(1), change(least(9), func(p *api.Policy) { p.Depth = 0 })}, api.ErrForm, 1)
	wantCheck(t, []api.Policy{least(1), full(9)}, api.ErrGap, 1)
	wantCheck(t, []api.Policy{form(9)}, api.ErrForm, 0)
	// At several.
	wantCheck(t, []api.Policy{full(9), form(2)}, api.ErrGap, 0)
	wantCheck(t, []api.Policy{least(1), full(2), form(3)}, api.ErrLoose, 1)
	wantCheck(t, []api.Policy{least(1), full(2), full(9)}, api.ErrLoose, 1)
	wantCheck(t, []api.Policy{least(1), full(9), form(3)}, api.ErrGap, 1)
	wantCheck(t, []api.Policy{least(1), least(9), full(3)}, api.ErrGap, 1)
	wantCheck(t, []api.Policy{full(1), form(2), full(9), least(4), full(5)}, api.ErrForm, 1)
}

func TestAdd(t *testing.T) {
	wantAdd(t, nil, least(1), api.OK)
	wantAdd(t, []api.Policy{}, full(1), api.OK)
	for n := range 100 {
		wantAdd(t, chainOf(n), chainOf(n + 1)[n], api.OK)
		wantAdd(t, chainOf(n), least(n+1), api.OK)
	}
	// From nothing on, each one behind what was told.
	var l []api.Policy
	for _, p := range chainOf(20) {
		var e api.Errno
		if l, e = Add(l, p); e != api.OK {
			t.Fatal(e)
		}
	}
	if !sameAll(l, chainOf(20)) {
		t.Errorf("%+v", l)
	}
}

func TestAddWrong(t *testing.T) {
	wantAdd(t, nil, api.Policy{}, api.ErrForm)
	wantAdd(t, nil, full(2), api.ErrGap)
	wantAdd(t, nil, full(1000001), api.ErrForm)
	for n := range 5 {
		for _, wrong := range wrongs(n + 1) {
			wantAdd(t, chainOf(n), wrong, api.ErrForm)
		}
		for _, epoch := range []int{1, 2, 3, 4, 5, 6, 7, 1000000} {
			if epoch != n+1 {
				wantAdd(t, chainOf(n), least(epoch), api.ErrGap)
				wantAdd(t, chainOf(n), change(full(epoch), func(p *api.Policy) { p.Depth = 64 }), api.ErrGap)
			}
		}
		loose := change(full(n+1), func(p *api.Policy) { p.Depth = 10 })
		if n > 0 {
			wantAdd(t, chainOf(n), loose, api.ErrLoose)
		} else {
			wantAdd(t, chainOf(n), loose, api.OK)
		}
	}
	// What is wrong with l is told, whatever p is.
	for _, p := range []api.Policy{{}, least(1), least(2), least(3), least(4), full(3), full(9)} {
		wantAdd(t, []api.Policy{{}}, p, api.ErrForm)
		wantAdd(t, []api.Policy{full(1), {}}, p, api.ErrForm)
		wantAdd(t, []api.Policy{full(2)}, p, api.ErrGap)
		wantAdd(t, []api.Policy{full(1), full(3)}, p, api.ErrGap)
		wantAdd(t, []api.Policy{least(1), full(2)}, p, api.ErrLoose)
		wantAdd(t, []api.Policy{least(1), full(2), {}}, p, api.ErrLoose)
	}
}

func TestAt(t *testing.T) {
	for _, epoch := range []int{math.MinInt, -1, 0, 1, 2, math.MaxInt} {
		wantAt(t, nil, epoch, api.Policy{}, false)
	}
	for n := range 10 {
		l := chainOf(n)
		for epoch := -3; epoch < n+4; epoch++ {
			if 1 <= epoch && epoch <= n {
				wantAt(t, l, epoch, l[epoch-1], true)
			} else {
				wantAt(t, l, epoch, api.Policy{}, false)
			}
		}
		wantAt(t, l, math.MinInt, api.Policy{}, false)
		wantAt(t, l, math.MaxInt, api.Policy{}, false)
	}
	// What is asked need be no chain, nor of policies that may be: the first
	// one of an epoch is told as it is.
	wrong := api.Policy{Epoch: -7, Elems: []string{"script", "", "script"}, Attrs: []string{"."}, Classes: []string{"\xff"}, Depth: -1}
	l := []api.Policy{full(3), least(3), wrong, {}, least(1), full(1), full(math.MaxInt), full(math.MinInt)}
	wantAt(t, l, 3, full(3), true)
	wantAt(t, l, 1, least(1), true)
	wantAt(t, l, -7, wrong, true)
	wantAt(t, l, 0, api.Policy{}, true)
	wantAt(t, l, math.MaxInt, full(math.MaxInt), true)
	wantAt(t, l, math.MinInt, full(math.MinInt), true)
	wantAt(t, l, 2, api.Policy{}, false)
	wantAt(t, l, 7, api.Policy{}, false)
}

// TestLongest: a chain ends with the last epoch that may be.
func TestLongest(t *testing.T) {
	const most = 1000000
	l := make([]api.Policy, most)
	for i := range l {
		l[i] = least(i + 1)
	}
	if e, n := Check(l); e != api.OK || n != -1 {
		t.Error(e, n)
	}
	if p, is := At(l, most); !is || !same(p, l[most-1]) {
		t.Error(p, is)
	}
	if p, is := At(l, most+1); is || !same(p, api.Policy{}) {
		t.Error(p, is)
	}
	if got, e := Add(l[:most-1], l[most-1]); e != api.OK || len(got) != most || !same(got[most-1], l[most-1]) {
		t.Error(len(got), e)
	}
	if got, e := Add(l, least(most+1)); e != api.ErrForm || len(got) != 0 {
		t.Error(len(got), e)
	}
	l[most-1].Depth = 2
	if e, n := Check(l); e != api.ErrLoose || n != most-1 {
		t.Error(e, n)
	}
}

// TestLarge: lists and texts beyond what may be are told, not read for long.
func TestLarge(t *testing.T) {
	large := full(2)
	large.Classes = nil
	for i := range 200000 {
		large.Classes = append(large.Classes, fmt.Sprintf("c%09d", i))
	}
	large.Props = []string{strings.Repeat("p", 1<<20)}
	wantAt(t, []api.Policy{full(1), large}, 2, large, true)
	if e, n := Check([]api.Policy{full(1), large, large}); e != api.ErrForm || n != 1 {
		t.Error(e, n)
	}
	if got, e := Add([]api.Policy{full(1)}, large); e != api.ErrForm || len(got) != 0 {
		t.Error(len(got), e)
	}
	// The largest that may be.
	most := full(1)
	most.Elems, most.Attrs, most.Schemes, most.Classes, most.Props = nil, nil, nil, nil, nil
	for i := range 64 {
		s := strings.Repeat("q", 28) + fmt.Sprintf("%04d", i)
		most.Elems, most.Schemes, most.Classes, most.Props = append(most.Elems, s), append(most.Schemes, s), append(most.Classes, s), append(most.Props, s)
		most.Attrs = append(most.Attrs, s+"."+s)
	}
	wantAdd(t, nil, most, api.OK)
	wantAdd(t, []api.Policy{most}, change(most, func(p *api.Policy) { p.Epoch = 2 }), api.OK)
}

// TestInputsStay: what is handed in is the same behind a call, and so is what
// stands behind it in its arrays.
func TestInputsStay(t *testing.T) {
	words := []string{"a", "b", "x"}
	p := change(least(1), func(p *api.Policy) { p.Elems, p.Classes = words[:2], words[:2] })
	q := change(least(2), func(p *api.Policy) { p.Elems = words[:1] })
	array := []api.Policy{p, q, full(3), full(4)}
	before := slices.Clone(array)
	for n := range 3 {
		for range 2 {
			if got, e := Add(array[:n], least(n+1)); e != api.OK || len(got) != n+1 || !same(got[n], least(n+1)) {
				t.Errorf("%+v, %v", got, e)
			}
			if _, e := Add(array[:n], least(9)); e != api.ErrGap {
				t.Error(e)
			}
			Check(array[:n])
			At(array[:n], n)
		}
	}
	if !sameAll(array, before) || !slices.Equal(words, []string{"a", "b", "x"}) {
		t.Errorf("what was handed in is changed: %+v, %q", array, words)
	}
}

// texts are the bytes of a policy's texts, over which new ones can be written.
type texts [][]byte

// text is a text of bytes that are kept.
func (t *texts) text(s string) string {
	b := []byte(s)
	*t = append(*t, b)
	return unsafe.String(&b[0], len(b))
}

func (t *texts) policy(epoch int) api.Policy {
	p := full(epoch)
	for _, list := range listsOf(&p) {
		for i, s := range *list {
			(*list)[i] = t.text(s)
		}
	}
	return p
}

// wipe writes over all texts, and over the lists of policies.
func (t *texts) wipe(l ...api.Policy) {
	for _, b := range *t {
		for i := range b {
			b[i] = 'z'
		}
	}
	for i := range l {
		wipeLists(&l[i])
	}
}

// wipeLists writes over what a policy's lists have, and over the room behind.
func wipeLists(p *api.Policy) {
	for _, list := range listsOf(p) {
		all := (*list)[:cap(*list)]
		for i := range all {
			all[i] = "changed"
		}
	}
}

// TestAnswersAreNew: what is told shares nothing with what was given, with what
// was told before, or with another part of itself.
func TestAnswersAreNew(t *testing.T) {
	var bytes texts
	l := []api.Policy{bytes.policy(1), bytes.policy(2)}
	p := bytes.policy(3)
	added, e := Add(l, p)
	told, is := At(l, 2)
	again, _ := At(added, 3)
	more, _ := Add(added, full(4))
	bytes.wipe(append(l, p)...)
	l[0], l[1] = api.Policy{}, api.Policy{}
	if e != api.OK || !sameAll(added, []api.Policy{full(1), full(2), full(3)}) {
		t.Errorf("what is added is shared: %+v, %v", added, e)
	}
	if !is || !same(told, full(2)) {
		t.Errorf("what is told is shared: %+v", told)
	}
	bytes.wipe(added...)
	if !same(again, full(3)) || !sameAll(more, []api.Policy{full(1), full(2), full(3), full(4)}) {
		t.Errorf("what is told is shared with what was told: %+v, %+v", again, more)
	}
}

// TestListsAreApart: lists that were one in what was given are apart in what is
// told.
func TestListsAreApart(t *testing.T) {
	words := []string{"a", "b"}
	one := change(least(1), func(p *api.Policy) { p.Elems, p.Schemes, p.Classes, p.Props = words, words, words, words })
	two := change(one, func(p *api.Policy) { p.Epoch = 2 })
	if e, _ := Check([]api.Policy{one, two}); e != api.OK || !policy.Right(one) {
		t.Fatal(e)
	}
	added, _ := Add([]api.Policy{one}, two)
	told, _ := At([]api.Policy{one}, 1)
	added[0].Elems[0], told.Elems[0] = "changed", "changed"
	added[1].Props = append(added[1].Props[:1], "changed")
	want := func(p api.Policy, elem, prop string) {
		t.Helper()
		lists := [][]string{{elem, "b"}, nil, {"a", "b"}, {"a", "b"}, {"a", prop}}
		for i, list := range listsOf(&p) {
			if !slices.Equal(*list, lists[i]) {
				t.Errorf("lists are one: %+v", p)
			}
		}
	}
	want(told, "changed", "b")
	want(added[0], "changed", "b")
	want(added[1], "a", "changed")
	want(one, "a", "b")
}
