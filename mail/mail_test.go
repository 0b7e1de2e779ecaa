package mail

import (
	"fmt"
	"math"
	"slices"
	"strings"
	"testing"
	"unsafe"

	"verso/api"
)

// The tests of ordinary calls, and of the edges that the chapter names, say
// what they want one by one. Those in model_test.go hold the package against
// the chapter's words, at many lists of calls.

// noNumbers are those of no message of a box that has so many.
func noNumbers(many int) []int {
	return []int{math.MinInt, -1000, -many - 1, -many, -2, -1, many, many + 1, many + 1000, math.MaxInt - 1, math.MaxInt}
}

// ack is a message to a node; epochs tell messages apart.
func ack(to, epoch int) api.Msg {
	return api.Msg{Kind: api.MAck, From: (to + 1) % 6, To: to, Epoch: epoch}
}

// acks are messages to a node, of epochs from one on.
func acks(to, from, many int) []api.Msg {
	var l []api.Msg
	for i := range many {
		l = append(l, ack(to, from+i))
	}
	return l
}

// oneOfEach is a message of each kind, with all that it has.
func oneOfEach() []api.Msg {
	p := api.Policy{
		Epoch: 7, Elems: []string{"a", "b", "i"}, Attrs: []string{"*.class", "a.href"}, Schemes: []string{"http", "https"},
		Classes: []string{"mention", "tag"}, Props: []string{"color", "text-align"}, Depth: 9, Nodes: 99, Bytes: 999,
	}
	return []api.Msg{
		{Kind: api.MDigest, From: 1, To: 2, Epoch: 3, IDs: []string{"a", "b"}},
		{Kind: api.MPosts, From: 2, To: 1, Posts: []api.Post{{ID: "a", Raw: "<b>x</b>\x00\xff"}, {ID: "b", Raw: ""}}},
		{Kind: api.MPolicy, From: 0, To: 5, Policy: p},
		{Kind: api.MAck, From: 4, To: 0, Epoch: 12},
	}
}

// shown is all of a message. Nil and empty lists are shown the same.
func shown(m api.Msg) string {
	p := m.Policy
	return fmt.Sprintf("%d from %d to %d, epoch %d, %q %q, policy %d %q %q %q %q %q %d %d %d",
		m.Kind, m.From, m.To, m.Epoch, m.IDs, m.Posts, p.Epoch, p.Elems, p.Attrs, p.Schemes, p.Classes, p.Props, p.Depth, p.Nodes, p.Bytes)
}

// shownAll are all of some messages.
func shownAll(l []api.Msg) []string {
	var out []string
	for _, m := range l {
		out = append(out, shown(m))
	}
	return out
}

// boxOf is a box with messages.
func boxOf(t *testing.T, l ...api.Msg) *Box {
	t.Helper()
	b := New()
	for _, m := range l {
		want(t, "Put", b.Put(m), api.OK)
	}
	return b
}

// want asks what a call answered.
func want(t *testing.T, what string, got, e api.Errno) {
	t.Helper()
	if got != e {
		t.Fatalf("%s answers %v, not %v", what, got, e)
	}
}

// wantAll asks for a box's messages, and how many there are to each number.
func wantAll(t *testing.T, b *Box, l ...api.Msg) {
	t.Helper()
	all := b.All()
	if !slices.Equal(shownAll(all), shownAll(l)) {
		t.Fatalf("the messages are %.300q, not %.300q", shownAll(all), shownAll(l))
	}
	if cap(all) != len(all) {
		t.Fatalf("behind %d messages there is room up to %d", len(all), cap(all))
	}
	var many [6]int
	for _, m := range l {
		many[m.To]++
	}
	if got := b.Many(); got != many {
		t.Fatalf("there are %v messages, not %v", got, many)
	}
}

// wantTake takes a message.
func wantTake(t *testing.T, b *Box, n int, want api.Msg) {
	t.Helper()
	if m, is := b.Take(n); !is || shown(m) != shown(want) {
		t.Fatalf("Take(%d) is %.200s, %v, not %.200s", n, shown(m), is, shown(want))
	}
}

// wantNone asks for messages that there are not.
func wantNone(t *testing.T, b *Box) {
	t.Helper()
	for _, n := range noNumbers(len(b.All())) {
		if m, is := b.Take(n); is || shown(m) != shown(api.Msg{}) {
			t.Fatalf("Take(%d) is %.200s, %v", n, shown(m), is)
		}
		want(t, fmt.Sprintf("Twice(%d)", n), b.Twice(n), api.ErrNone)
	}
}

func TestExamples(t *testing.T) {
	x, y := ack(1, 3), ack(2, 4)
	b := boxOf(t, x, y)
	want(t, "Twice(0)", b.Twice(0), api.OK)
	wantAll(t, b, x, y, x)
	wantTake(t, b, 0, x)
	wantAll(t, b, y, x)
}

// P17.1

func TestNew(t *testing.T) {
	b := New()
	wantAll(t, b)
	wantNone(t, b)
	wantAll(t, b)
	if l := b.All(); len(l) != 0 {
		t.Fatalf("a new box has %v", l)
	}
	if many := b.Many(); many != [6]int{} {
		t.Fatalf("a new box has so many: %v", many)
	}
}

// TestNewOnes: what befalls one box befalls no other.
func TestNewOnes(t *testing.T) {
	b, other := boxOf(t, acks(1, 0, 16)...), New()
	wantAll(t, other)
	want(t, "Put into another one", other.Put(ack(1, 99)), api.OK)
	wantTake(t, b, 0, ack(1, 0))
	wantAll(t, other, ack(1, 99))
	wantAll(t, b, acks(1, 1, 15)...)
	wantAll(t, New())
}

func TestAllInOrder(t *testing.T) {
	b := New()
	var l []api.Msg
	for i := range 90 {
		m := ack(i*7%6, 1000-i)
		want(t, "Put", b.Put(m), api.OK)
		l = append(l, m)
		wantAll(t, b, l...)
	}
	// To ask changes nothing.
	for range 3 {
		wantAll(t, b, l...)
	}
}

// TestMany: To counts alone, whatever a message's kind is, and whoever it is
// from.
func TestMany(t *testing.T) {
	b := boxOf(t, oneOfEach()...)
	if got := b.Many(); got != [6]int{1, 1, 1, 0, 0, 1} {
		t.Fatalf("Many is %v", got)
	}
	for from := range 6 {
		b := New()
		var many [6]int
		for to := range 6 {
			for n := range to + 1 {
				if to == from {
					continue
				}
				want(t, "Put", b.Put(api.Msg{Kind: api.MDigest, From: from, To: to, Epoch: n}), api.OK)
				many[to]++
			}
		}
		if got := b.Many(); got != many {
			t.Fatalf("of messages from %d Many is %v, not %v", from, got, many)
		}
	}
}

// TestManyIsACopy: what is told is the caller's own.
func TestManyIsACopy(t *testing.T) {
	b := boxOf(t, ack(1, 0))
	many := b.Many()
	many[1], many[2] = 16, 16
	want(t, "Put", b.Put(ack(1, 1)), api.OK)
	want(t, "Put", b.Put(ack(2, 2)), api.OK)
	wantAll(t, b, ack(1, 0), ack(1, 1), ack(2, 2))
}

// P17.2

// TestPutKinds: messages of all kinds are there as they were put, with all that
// they have, as often as they were put.
func TestPutKinds(t *testing.T) {
	l := slices.Concat(oneOfEach(), oneOfEach())
	b := boxOf(t, l...)
	wantAll(t, b, l...)
	for i := range l {
		want(t, "Twice", b.Twice(i), api.OK)
	}
	wantAll(t, b, slices.Concat(l, l)...)
	for _, m := range slices.Concat(l, l) {
		wantTake(t, b, 0, m)
	}
	wantAll(t, b)
}

// TestPutEmpty: messages without what they may have, and with lists that are
// empty rather than nil.
func TestPutEmpty(t *testing.T) {
	none := []string{}
	l := []api.Msg{
		{Kind: api.MAck, From: 1},
		{Kind: api.MDigest, From: 1},
		{Kind: api.MPosts, From: 1},
		{Kind: api.MPolicy, From: 1, Policy: api.Policy{Epoch: 1, Depth: 1, Nodes: 1, Bytes: 1}},
	}
	b := boxOf(t, l...)
	for _, m := range l {
		m.IDs, m.Posts = none, []api.Post{}
		p := &m.Policy
		p.Elems, p.Attrs, p.Schemes, p.Classes, p.Props = none, none, none, none, none
		want(t, "Put", b.Put(m), api.OK)
	}
	wantAll(t, b, slices.Concat(l, l)...)
}

// TestPutLarge: as many messages as there may be, each as large as it may be.
func TestPutLarge(t *testing.T) {
	m := api.Msg{Kind: api.MPosts}
	for i := range 64 {
		m.Posts = append(m.Posts, api.Post{ID: fmt.Sprintf("%016d", i), Raw: strings.Repeat("\xff", 2000)})
	}
	b := New()
	for i := range 96 {
		m.To, m.From = i%6, (i+1)%6
		want(t, "Put", b.Put(m), api.OK)
	}
	want(t, "Put of one more", b.Put(m), api.ErrFull)
	all := b.All()
	if len(all) != 96 {
		t.Fatalf("there are %d", len(all))
	}
	for i, got := range all {
		m.To, m.From = i%6, (i+1)%6
		if shown(got) != shown(m) {
			t.Fatalf("the message %d is another one: %.200s", i, shown(got))
		}
	}
}

// wrongMessages may not be.
func wrongMessages() []api.Msg {
	l := []api.Msg{{}}
	for _, n := range []int{math.MinInt, -1, 6, 7, 16, 1 << 32, 1<<32 + 1, math.MaxInt} {
		l = append(l, api.Msg{Kind: api.MAck, From: 1, To: n}, api.Msg{Kind: api.MAck, From: n, To: 1}, api.Msg{Kind: api.MAck, From: n, To: n}, api.Msg{Kind: n, From: 2, To: 1})
	}
	for n := range 6 {
		l = append(l, api.Msg{Kind: api.MAck, From: n, To: n})
	}
	for _, epoch := range []int{math.MinInt, -1, 1000001, math.MaxInt} {
		l = append(l, ack(1, epoch))
	}
	digest := func(ids ...string) { l = append(l, api.Msg{Kind: api.MDigest, From: 2, To: 1, IDs: ids}) }
	digest("")
	digest("b", "a")
	digest("a", "a")
	digest(strings.Repeat("x", 17))
	many := api.Msg{Kind: api.MDigest, From: 2, To: 1}
	for i := range 65 {
		many.IDs = append(many.IDs, fmt.Sprintf("%04d", i))
	}
	posts := func(posts ...api.Post) { l = append(l, api.Msg{Kind: api.MPosts, From: 2, To: 1, Posts: posts}) }
	posts(api.Post{})
	posts(api.Post{ID: "a", Raw: strings.Repeat("x", 2001)})
	posts(api.Post{ID: "b"}, api.Post{ID: "a"})
	posts(api.Post{ID: "a"}, api.Post{ID: "a"})
	l = append(l, many, api.Msg{Kind: api.MPolicy, From: 2, To: 1}, api.Msg{Kind: api.MPolicy, From: 2, To: 1, Policy: api.Policy{Epoch: 1}})
	// What one of another kind has.
	for _, has := range oneOfEach()[:3] {
		for kind := range 6 {
			if kind != has.Kind {
				has := has
				has.Kind, has.From, has.To = kind, 2, 1
				l = append(l, has)
			}
		}
	}
	return l
}

// TestPutWrong: messages that may not be change nothing, and that is said ahead
// of there being no room.
func TestPutWrong(t *testing.T) {
	for many := range 17 {
		b := boxOf(t, acks(1, 0, many)...)
		for _, m := range wrongMessages() {
			want(t, fmt.Sprintf("Put(%.200s)", shown(m)), b.Put(m), api.ErrArg)
		}
		wantAll(t, b, acks(1, 0, many)...)
	}
	b := New()
	var l []api.Msg
	for to := range 6 {
		l = append(l, acks(to, 0, 16)...)
	}
	for _, m := range l {
		want(t, "Put", b.Put(m), api.OK)
	}
	for _, m := range wrongMessages() {
		want(t, fmt.Sprintf("Put(%.200s) into a full box", shown(m)), b.Put(m), api.ErrArg)
	}
	wantAll(t, b, l...)
}

// TestPutFull: 16 to each number, and not one more, of whichever kind and from
// whomever; the others have room none the less.
func TestPutFull(t *testing.T) {
	for full := range 6 {
		l := acks(full, 0, 16)
		b := boxOf(t, l...)
		want(t, "Put of one more", b.Put(ack(full, 16)), api.ErrFull)
		want(t, "Put of one again", b.Put(ack(full, 0)), api.ErrFull)
		for _, m := range oneOfEach() {
			for m.From = range 6 {
				if m.To = full; m.From != m.To {
					want(t, "Put of another one", b.Put(m), api.ErrFull)
				}
			}
		}
		wantAll(t, b, l...)
		for to := range 6 {
			if to != full {
				want(t, "Put to another one", b.Put(ack(to, 99)), api.OK)
				l = append(l, ack(to, 99))
			}
		}
		want(t, "Put of one more", b.Put(ack(full, 16)), api.ErrFull)
		wantAll(t, b, l...)
	}
}

// TestPutFrom: more than 16 may come from one node.
func TestPutFrom(t *testing.T) {
	b := New()
	for i := range 80 {
		want(t, "Put", b.Put(api.Msg{Kind: api.MAck, From: 0, To: 1 + i%5, Epoch: i}), api.OK)
	}
	for to := 1; to < 6; to++ {
		want(t, "Put of one more", b.Put(api.Msg{Kind: api.MAck, From: 0, To: to}), api.ErrFull)
	}
	want(t, "Put to 0", b.Put(ack(0, 1)), api.OK)
	if got := b.Many(); got != [6]int{1, 16, 16, 16, 16, 16} {
		t.Fatalf("Many is %v", got)
	}
}

// TestRoomAgain: what is taken leaves room, for one to where it went.
func TestRoomAgain(t *testing.T) {
	for n := range 16 {
		l := slices.Concat(acks(1, 0, 16), acks(2, 50, 16))
		b := boxOf(t, l...)
		wantTake(t, b, n, l[n])
		want(t, "Put to the full one", b.Put(ack(2, 99)), api.ErrFull)
		want(t, "Put", b.Put(ack(1, 99)), api.OK)
		want(t, "Put of one more", b.Put(ack(1, 98)), api.ErrFull)
		wantAll(t, b, append(slices.Delete(l, n, n+1), ack(1, 99))...)
	}
	b := boxOf(t, acks(3, 0, 16)...)
	for i := range 1000 {
		want(t, "Put", b.Put(ack(3, i)), api.ErrFull)
		wantTake(t, b, 0, ack(3, i))
		want(t, "Put", b.Put(ack(3, i+16)), api.OK)
	}
	wantAll(t, b, acks(3, 1000, 16)...)
}

// P17.3

func TestTake(t *testing.T) {
	l := slices.Concat(oneOfEach(), []api.Msg{ack(1, 1), ack(1, 1), ack(2, 2)})
	for first := range l {
		b := boxOf(t, l...)
		wantTake(t, b, first, l[first])
		rest := slices.Delete(slices.Clone(l), first, first+1)
		wantAll(t, b, rest...)
		for second := range rest {
			b := boxOf(t, l...)
			wantTake(t, b, first, l[first])
			wantTake(t, b, second, rest[second])
			wantAll(t, b, slices.Delete(slices.Clone(rest), second, second+1)...)
		}
	}
}

// TestTakeAll: from the front, from the back, and from within.
func TestTakeAll(t *testing.T) {
	for _, which := range []func(left int) int{
		func(left int) int { return 0 },
		func(left int) int { return left - 1 },
		func(left int) int { return left / 2 },
	} {
		l := slices.Concat(acks(1, 0, 5), acks(2, 5, 5), oneOfEach())
		b := boxOf(t, l...)
		for len(l) > 0 {
			n := which(len(l))
			wantTake(t, b, n, l[n])
			l = slices.Delete(l, n, n+1)
			wantAll(t, b, l...)
			wantNone(t, b)
		}
		want(t, "Put into an emptied one", b.Put(ack(1, 1)), api.OK)
		wantAll(t, b, ack(1, 1))
	}
}

// TestNone: numbers of no message change nothing, in boxes of all sizes.
func TestNone(t *testing.T) {
	b := New()
	var l []api.Msg
	for i := range 96 {
		wantNone(t, b)
		wantAll(t, b, l...)
		l = append(l, ack(i%6, i))
		want(t, "Put", b.Put(l[i]), api.OK)
	}
	// It is full to all: that there is none is said none the less.
	wantNone(t, b)
	wantAll(t, b, l...)
}

// TestTwice: it stays where it is, and is there behind all once more.
func TestTwice(t *testing.T) {
	l := slices.Concat(oneOfEach(), acks(3, 0, 3))
	for n := range l {
		b := boxOf(t, l...)
		want(t, "Twice", b.Twice(n), api.OK)
		wantAll(t, b, append(slices.Clone(l), l[n])...)
		want(t, "Twice of the same", b.Twice(n), api.OK)
		want(t, "Twice of the last", b.Twice(len(l)+1), api.OK)
		wantAll(t, b, append(slices.Clone(l), l[n], l[n], l[n])...)
		// One that is taken leaves the others.
		wantTake(t, b, n, l[n])
		wantAll(t, b, append(slices.Delete(slices.Clone(l), n, n+1), l[n], l[n], l[n])...)
	}
}

// TestTwiceFull: what is there twice counts as any other one does.
func TestTwiceFull(t *testing.T) {
	for to := range 6 {
		other := ack((to+3)%6, 77)
		b := boxOf(t, other, ack(to, 5))
		l := []api.Msg{other, ack(to, 5)}
		for i := range 15 {
			want(t, "Twice", b.Twice(1+i), api.OK)
			l = append(l, ack(to, 5))
		}
		for n := 1; n <= 16; n++ {
			want(t, "Twice of one more", b.Twice(n), api.ErrFull)
		}
		want(t, "Put of one more", b.Put(ack(to, 6)), api.ErrFull)
		wantAll(t, b, l...)
		want(t, "Twice of another one's", b.Twice(0), api.OK)
		wantAll(t, b, append(l, other)...)
		wantTake(t, b, 9, ack(to, 5))
		want(t, "Twice of one", b.Twice(3), api.OK)
		want(t, "Twice of one more", b.Twice(3), api.ErrFull)
	}
}

// P17.4

// TestNeverMore: whatever is put, however often, there are never more than 16 to
// one node, and what was let in is there.
func TestNeverMore(t *testing.T) {
	b := New()
	var l []api.Msg
	for i := range 3000 {
		m, e := ack(i*i%7%6, i), api.OK
		if i%3 == 2 {
			m = l[i%len(l)]
			e = b.Twice(i % len(l))
		} else {
			e = b.Put(m)
		}
		if e == api.OK {
			l = append(l, m)
		} else {
			want(t, "Put or Twice", e, api.ErrFull)
		}
		if i%5 == 4 {
			n := i * 11 % len(l)
			wantTake(t, b, n, l[n])
			l = slices.Delete(l, n, n+1)
		}
		for to, many := range b.Many() {
			if many > 16 {
				t.Fatalf("%d are under way to %d", many, to)
			}
		}
	}
	wantAll(t, b, l...)
}

// spoil changes all that a message's lists are, and lays more behind them.
func spoil(m *api.Msg) {
	p := &m.Policy
	for _, list := range [][]string{m.IDs, p.Elems, p.Attrs, p.Schemes, p.Classes, p.Props} {
		for i := range list {
			list[i] = "changed"
		}
		_ = append(list, "changed")
	}
	for i := range m.Posts {
		m.Posts[i] = api.Post{ID: "changed", Raw: "changed"}
	}
	_ = append(m.Posts, api.Post{ID: "changed"})
	m.From, m.To, m.Epoch = 9, 9, 9
}

// TestOwn: what is handed in is neither changed nor kept, and what is told is the
// caller's own, of messages that are there twice, too.
func TestOwn(t *testing.T) {
	l := oneOfEach()
	b := New()
	for _, m := range oneOfEach() {
		was := shown(m)
		want(t, "Put", b.Put(m), api.OK)
		if shown(m) != was {
			t.Fatalf("Put changed what it was handed: %s", shown(m))
		}
		spoil(&m)
	}
	wantAll(t, b, l...)
	for n := range l {
		want(t, "Twice", b.Twice(n), api.OK)
	}
	twice := slices.Concat(l, l)
	told := b.All()
	again := b.All()
	for i := range again {
		spoil(&again[i])
	}
	_ = append(again, ack(1, 1))
	wantAll(t, b, twice...)
	for i := range l {
		m, _ := b.Take(0)
		if shown(m) != shown(l[i]) {
			t.Fatalf("Take(0) is %s", shown(m))
		}
		spoil(&m)
	}
	wantAll(t, b, l...)
	if !slices.Equal(shownAll(told), shownAll(twice)) {
		t.Fatalf("what was told is changed: %q", shownAll(told))
	}
	// What is put behind it later leaves what was told as it is.
	want(t, "Put", b.Put(ack(3, 3)), api.OK)
	if len(told) != 8 || !slices.Equal(shownAll(told), shownAll(twice)) {
		t.Fatalf("what was told is changed: %q", shownAll(told))
	}
}

// TestOneAnswer: no two messages of one answer share a list, though one was put
// twice.
func TestOneAnswer(t *testing.T) {
	l := oneOfEach()
	for n, m := range l {
		b := boxOf(t, m, m)
		want(t, "Twice", b.Twice(0), api.OK)
		want(t, "Twice", b.Twice(2), api.OK)
		all := b.All()
		for i := range all {
			spoil(&all[i])
			for _, other := range all[i+1:] {
				if shown(other) != shown(oneOfEach()[n]) {
					t.Fatalf("two messages of one answer share: %s", shown(other))
				}
			}
		}
		wantAll(t, b, m, m, m, m)
	}
}

// TestBytesOfItsOwn: texts that are handed in are not kept, down to their bytes.
func TestBytesOfItsOwn(t *testing.T) {
	c := []byte("abc")
	text := unsafe.String(&c[0], len(c))
	b := boxOf(t,
		api.Msg{Kind: api.MDigest, From: 1, To: 2, IDs: []string{text}},
		api.Msg{Kind: api.MPosts, From: 1, To: 2, Posts: []api.Post{{ID: text, Raw: text}}},
		api.Msg{Kind: api.MPolicy, From: 1, To: 2, Policy: api.Policy{Epoch: 1, Elems: []string{text}, Classes: []string{text}, Depth: 1, Nodes: 1, Bytes: 1}})
	c[0] = 'z'
	wantAll(t, b,
		api.Msg{Kind: api.MDigest, From: 1, To: 2, IDs: []string{"abc"}},
		api.Msg{Kind: api.MPosts, From: 1, To: 2, Posts: []api.Post{{ID: "abc", Raw: "abc"}}},
		api.Msg{Kind: api.MPolicy, From: 1, To: 2, Policy: api.Policy{Epoch: 1, Elems: []string{"abc"}, Classes: []string{"abc"}, Depth: 1, Nodes: 1, Bytes: 1}})
}
