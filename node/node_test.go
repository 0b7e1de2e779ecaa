package node

import (
	"fmt"
	"math"
	"slices"
	"strings"
	"testing"
	"unsafe"

	"verso/api"
	"verso/dev"
	"verso/flog"
	"verso/msg"
	"verso/policy"
	"verso/store"
)

// The tests of ordinary calls, and of the edges that the chapter names, say
// what they want one by one. Those in model_test.go hold the package against
// the chapter's words, at many lists of calls.

// lets is the policy of an epoch that lets some elements.
func lets(epoch int, elems ...string) api.Policy {
	return api.Policy{Epoch: epoch, Elems: elems, Depth: 9, Nodes: 99, Bytes: 2000}
}

// full is the policy of an epoch with all lists.
func full(epoch int) api.Policy {
	return api.Policy{
		Epoch: epoch, Elems: []string{"a", "b", "i"}, Attrs: []string{"*.class", "a.href"}, Schemes: []string{"http", "https"},
		Classes: []string{"mention", "tag"}, Props: []string{"color"}, Depth: 9, Nodes: 99, Bytes: 2000,
	}
}

// shown is all of a message. Nil and empty lists are shown the same.
func shown(m api.Msg) string {
	p := m.Policy
	return fmt.Sprintf("%d from %d to %d, epoch %d, %q %q, policy %d %q %q %q %q %q %d %d %d",
		m.Kind, m.From, m.To, m.Epoch, m.IDs, m.Posts, p.Epoch, p.Elems, p.Attrs, p.Schemes, p.Classes, p.Props, p.Depth, p.Nodes, p.Bytes)
}

// shownAll are all of some messages.
func shownAll(l []api.Msg) []string {
	var out []string
	for _, m := range l {
		out = append(out, shown(m))
	}
	return out
}

// Messages between nodes.

func digestOf(from, to, epoch int, ids ...string) api.Msg {
	return api.Msg{Kind: api.MDigest, From: from, To: to, Epoch: epoch, IDs: ids}
}

// postsOf are a message's posts, each an ID, a blank and its raw bytes.
func postsOf(from, to int, posts ...string) api.Msg {
	m := api.Msg{Kind: api.MPosts, From: from, To: to}
	for _, p := range posts {
		id, raw, _ := strings.Cut(p, " ")
		m.Posts = append(m.Posts, api.Post{ID: id, Raw: raw})
	}
	return m
}

func policyOf(from, to int, p api.Policy) api.Msg {
	return api.Msg{Kind: api.MPolicy, From: from, To: to, Policy: p}
}

func ackOf(from, to, epoch int) api.Msg {
	return api.Msg{Kind: api.MAck, From: from, To: to, Epoch: epoch}
}

// want asks what a call answered.
func want(t *testing.T, what string, got, e api.Errno) {
	t.Helper()
	if got != e {
		t.Fatalf("%s answers %v, not %v", what, got, e)
	}
}

// opened is the node of a number and a device.
func opened(t *testing.T, me int, d *dev.Dev) *Node {
	t.Helper()
	n, e := Open(me, d)
	if n == nil || e != api.OK {
		t.Fatalf("Open(%d): a node %v, %v", me, n != nil, e)
	}
	return n
}

// notOpened asks that Open answers nothing, and an error.
func notOpened(t *testing.T, me int, d *dev.Dev, e api.Errno) {
	t.Helper()
	if n, got := Open(me, d); n != nil || got != e {
		t.Fatalf("Open(%d): a node %v, %v, not %v", me, n != nil, got, e)
	}
}

// ingests takes in posts, each an ID, a blank and its raw bytes.
func ingests(t *testing.T, n *Node, posts ...string) {
	t.Helper()
	for _, p := range posts {
		id, raw, _ := strings.Cut(p, " ")
		want(t, "Ingest of "+id, n.Ingest(id, raw), api.OK)
	}
}

// follows lets a node follow policies, by messages of the coordinator's.
func follows(t *testing.T, n *Node, l ...api.Policy) {
	t.Helper()
	for _, p := range l {
		wantTake(t, n, policyOf(0, n.me, p))
	}
}

// nodeOf is a node with posts, and with policies that let less and less.
func nodeOf(t *testing.T, me, policies int, posts ...string) *Node {
	t.Helper()
	n := opened(t, me, dev.New())
	ingests(t, n, posts...)
	for i := range policies {
		follows(t, n, lets(i+1, []string{"a", "b", "i", "p", "u"}[min(i, 5):]...))
	}
	return n
}

// wantHas asks how many policies a node follows, and for the IDs of its posts.
func wantHas(t *testing.T, n *Node, epoch int, ids string) {
	t.Helper()
	if got := n.Epoch(); got != epoch {
		t.Fatalf("Epoch is %d, not %d", got, epoch)
	}
	if got := n.IDs(); !slices.Equal(got, strings.Fields(ids)) {
		t.Fatalf("IDs are %q, not %s", got, ids)
	}
}

// wantServed asks for the clean form that is served.
func wantServed(t *testing.T, n *Node, id, form string) {
	t.Helper()
	if got, e := n.Serve(id); got != form || e != api.OK {
		t.Fatalf("Serve(%s) is %.60q, %v, not %.60q", id, got, e, form)
	}
}

// wantNotServed asks that nothing is served.
func wantNotServed(t *testing.T, n *Node, id string, e api.Errno) {
	t.Helper()
	if got, gotE := n.Serve(id); got != "" || gotE != e {
		t.Fatalf("Serve(%s) is %.60q, %v, not %v", id, got, gotE, e)
	}
}

// wantMsgs asks for messages.
func wantMsgs(t *testing.T, what string, got []api.Msg, l ...api.Msg) {
	t.Helper()
	if !slices.Equal(shownAll(got), shownAll(l)) {
		t.Fatalf("%s tells %.400q, not %.400q", what, shownAll(got), shownAll(l))
	}
}

// wantTake lets a node take a message, and asks for its answers.
func wantTake(t *testing.T, n *Node, m api.Msg, l ...api.Msg) {
	t.Helper()
	was := shown(m)
	got, e := n.Take(m)
	want(t, "Take of "+was[:min(len(was), 200)], e, api.OK)
	wantMsgs(t, "Take", got, l...)
	if shown(m) != was {
		t.Fatalf("Take changed what it was handed: %.200s", shown(m))
	}
}

// wantNotTaken asks that Take answers an error, and nothing else.
func wantNotTaken(t *testing.T, n *Node, m api.Msg, e api.Errno) {
	t.Helper()
	if l, got := n.Take(m); got != e || len(l) != 0 {
		t.Fatalf("Take of %.200s answers %v, not %v, and %.200q", shown(m), got, e, shownAll(l))
	}
}

// recordsOf are the records of a device.
func recordsOf(t *testing.T, d *dev.Dev) []string {
	t.Helper()
	// The log of a device that is opened last is used alone: a copy's is opened.
	copied := dev.New()
	want(t, "dev.Append", copied.Append(d.Bytes()), api.OK)
	_, texts, e := flog.Open(copied)
	want(t, "flog.Open", e, api.OK)
	return texts
}

// wantRecords asks for a device's records.
func wantRecords(t *testing.T, d *dev.Dev, records ...string) {
	t.Helper()
	if got := recordsOf(t, d); !slices.Equal(got, records) {
		t.Fatalf("the records are %.60q, not %.60q", got, records)
	}
}

// recordOf is the record of a policy.
func recordOf(t *testing.T, p api.Policy) string {
	t.Helper()
	text, e := policy.Text(p)
	want(t, "policy.Text", e, api.OK)
	return "y" + text
}

// fill takes in posts, of IDs that begin with z, until a device has room for so
// many bytes more.
func fill(t *testing.T, d *dev.Dev, n *Node, room int) {
	t.Helper()
	left := func() int { return api.MostDisk - len(d.Bytes()) - room }
	for i := 0; left() > 2100; i++ {
		ingests(t, n, fmt.Sprintf("z%02d %s", i, strings.Repeat("w", api.MostRaw)))
	}
	// A frame's head, the letter, an ID of three bytes, and what ends it.
	ingests(t, n, "zy1 "+strings.Repeat("w", left()/2-8))
	ingests(t, n, "zy2 "+strings.Repeat("w", left()-8))
	if left() != 0 {
		t.Fatalf("there is room for %d bytes more or less than %d", left(), room)
	}
}

// noNodes are numbers of no node.
func noNodes() []int {
	return []int{math.MinInt, -1000, -6, -5, -2, -1, 0, 6, 7, 10, 1000, math.MaxInt - 1, math.MaxInt}
}

func TestExamples(t *testing.T) {
	one, two := nodeOf(t, 1, 0, "a x"), nodeOf(t, 2, 0)
	l := two.Tick(2)
	wantMsgs(t, "Tick", l, digestOf(2, 1, 0), ackOf(2, 0, 0))
	wantTake(t, one, l[0], postsOf(1, 2, "a x"))
	wantTake(t, two, postsOf(1, 2, "a x"))
	wantHas(t, two, 0, "a")
}

// P18.1

func TestOpenNew(t *testing.T) {
	for me := 1; me <= 5; me++ {
		d := dev.New()
		n := opened(t, me, d)
		wantHas(t, n, 0, "")
		for _, id := range []string{"", "a", "A", "a\n"} {
			wantNotServed(t, n, id, api.ErrNone)
		}
		wantRecords(t, d)
	}
}

// TestOpenWrongNumber: of a number that is no node's the device is left as it
// is, even what a store would trim, and it does not count that its power is gone.
func TestOpenWrongNumber(t *testing.T) {
	for _, me := range noNodes() {
		d := dev.New()
		opened(t, 1, d)
		want(t, "dev.Append", d.Append([]byte("\x00\x00\x09pa")), api.OK)
		want(t, "dev.Sync", d.Sync(), api.OK)
		notOpened(t, me, d, api.ErrArg)
		if string(d.Bytes()) != "\x00\x00\x09pa" {
			t.Fatalf("Open(%d): the bytes are %q", me, d.Bytes())
		}
		d.Arm(0)
		want(t, "dev.Sync", d.Sync(), api.ErrDead)
		notOpened(t, me, d, api.ErrArg)
		d.Restart(9)
		wantHas(t, opened(t, 5, d), 0, "")
		if len(d.Bytes()) != 0 {
			t.Fatalf("Open: the bytes are %q", d.Bytes())
		}
	}
}

// TestOpenErrors: the store's errors are the node's.
func TestOpenErrors(t *testing.T) {
	for me := 1; me <= 5; me++ {
		d := dev.New()
		d.Arm(0)
		want(t, "dev.Sync", d.Sync(), api.ErrDead)
		notOpened(t, me, d, api.ErrDead)
		d.Restart(0)
		log, _, e := flog.Open(d)
		want(t, "flog.Open", e, api.OK)
		want(t, "flog.Append", log.Append("pa\nx"), api.OK)
		wantHas(t, opened(t, me, d), 0, "a")
		want(t, "flog.Append", log.Append("pa\ny"), api.OK)
		notOpened(t, me, d, api.ErrForm)
		notOpened(t, me, d, api.ErrForm)
	}
}

// TestOpenAgain: all that a node has is there again, of another number, too.
func TestOpenAgain(t *testing.T) {
	for me := 1; me <= 5; me++ {
		d := dev.New()
		n := opened(t, 3, d)
		follows(t, n, full(1), lets(2, "b"))
		ingests(t, n, "b <b>x</b>", "a <i>y</i>")
		n.Tick(0)
		d.Restart(0)
		n = opened(t, me, d)
		wantHas(t, n, 2, "a b")
		wantServed(t, n, "a", "y")
		wantNotServed(t, n, "b", api.ErrWait)
		wantMsgs(t, "Tick", n.Tick(0), ackOf(me, 0, 2))
		wantServed(t, n, "b", "<b>x</b>")
		wantTake(t, n, digestOf(0, me, 0), postsOf(me, 0, "a <i>y</i>", "b <b>x</b>"), policyOf(me, 0, full(1)))
		wantTake(t, n, digestOf(0, me, 1, "a", "b"), policyOf(me, 0, lets(2, "b")))
		follows(t, n, lets(3, "b"))
	}
}

// TestOpenRecords: what a store kept on a device a node has.
func TestOpenRecords(t *testing.T) {
	d := dev.New()
	s, e := store.Open(d)
	want(t, "store.Open", e, api.OK)
	want(t, "store.Post", s.Post("a", "<b>x"), api.OK)
	want(t, "store.Follow", s.Follow(lets(1, "b")), api.OK)
	want(t, "store.Make", s.Make("a"), api.OK)
	want(t, "store.Post", s.Post("b", "y"), api.OK)
	n := opened(t, 4, d)
	wantHas(t, n, 1, "a b")
	wantServed(t, n, "a", "<b>x</b>")
	wantNotServed(t, n, "b", api.ErrWait)
}

func TestIngest(t *testing.T) {
	d := dev.New()
	n := opened(t, 1, d)
	long := strings.Repeat("z9", 8)
	large := strings.Repeat("\xff", 2000)
	ingests(t, n, "b <b>x</b>\x00\n", "a ", long+" "+large)
	wantHas(t, n, 0, "a b "+long)
	wantRecords(t, d, "pb\n<b>x</b>\x00\n", "pa\n", "p"+long+"\n"+large)
	for _, id := range []string{"", "A", "a ", "a\n", "é", "\xff", long + "a"} {
		want(t, "Ingest", n.Ingest(id, "x"), api.ErrArg)
		want(t, "Ingest", n.Ingest(id, large+"x"), api.ErrArg)
	}
	for _, id := range []string{"a", "b", long} {
		for _, raw := range []string{"", "x", large + "x"} {
			want(t, "Ingest", n.Ingest(id, raw), api.ErrTwice)
		}
	}
	want(t, "Ingest", n.Ingest("c", large+"x"), api.ErrLarge)
	wantHas(t, n, 0, "a b "+long)
	if len(recordsOf(t, d)) != 3 {
		t.Fatalf("the records are %.60q", recordsOf(t, d))
	}
}

func TestIngestFull(t *testing.T) {
	n := opened(t, 1, dev.New())
	var ids []string
	for i := range 64 {
		ids = append(ids, fmt.Sprint(100+i))
		ingests(t, n, ids[i]+" x")
	}
	want(t, "Ingest", n.Ingest("a", "x"), api.ErrFull)
	wantHas(t, n, 0, strings.Join(ids, " "))
	d := dev.New()
	n = opened(t, 1, d)
	fill(t, d, n, 9)
	ids = n.IDs()
	want(t, "Ingest", n.Ingest("a", "123456"), api.ErrFull)
	wantHas(t, n, 0, strings.Join(ids, " "))
	want(t, "Ingest", n.Ingest("a", "123"), api.OK)
	wantHas(t, n, 0, "a "+strings.Join(ids, " "))
}

func TestIngestDead(t *testing.T) {
	d := dev.New()
	n := opened(t, 1, d)
	ingests(t, n, "a x")
	d.Arm(1)
	want(t, "Ingest", n.Ingest("b", "y"), api.ErrDead)
	want(t, "Ingest", n.Ingest("b", "y"), api.ErrDead)
	want(t, "Ingest", n.Ingest("a", "y"), api.ErrTwice)
	wantHas(t, n, 0, "a")
	d.Restart(99)
	n = opened(t, 1, d)
	wantHas(t, n, 0, "a b")
}

func TestServe(t *testing.T) {
	n := nodeOf(t, 1, 0, "a <b>x</b><i>y</i>", "b ")
	wantNotServed(t, n, "c", api.ErrNone)
	wantNotServed(t, n, "", api.ErrNone)
	wantNotServed(t, n, "a", api.ErrWait)
	n.Tick(0)
	wantNotServed(t, n, "a", api.ErrWait)
	follows(t, n, lets(1, "b", "i"))
	wantNotServed(t, n, "a", api.ErrWait)
	n.Tick(0)
	wantServed(t, n, "a", "<b>x</b><i>y</i>")
	wantNotServed(t, n, "b", api.ErrWait)
	n.Tick(0)
	wantServed(t, n, "b", "")
	follows(t, n, lets(2, "b"))
	wantNotServed(t, n, "a", api.ErrWait)
	n.Tick(0)
	wantServed(t, n, "a", "<b>x</b>y")
	wantNotServed(t, n, "c", api.ErrNone)
}

// TestNodesApart: what befalls one node befalls no other.
func TestNodesApart(t *testing.T) {
	one, other := opened(t, 1, dev.New()), opened(t, 1, dev.New())
	ingests(t, one, "a x")
	follows(t, one, lets(1, "b"))
	one.Tick(5)
	wantHas(t, other, 0, "")
	follows(t, other, lets(1))
	ingests(t, other, "a <b>y")
	other.Tick(5)
	wantServed(t, one, "a", "x")
	wantServed(t, other, "a", "y")
	wantHas(t, one, 1, "a")
}

// P18.2

// TestTickTo: who is told, of all numbers of nodes, the ends of int among them.
func TestTickTo(t *testing.T) {
	for me := 1; me <= 5; me++ {
		n := nodeOf(t, me, 2, "a x", "b y")
		for _, nodes := range append(noNodes(), 1, 2, 3, 4, 5) {
			var l []api.Msg
			for to := 1; to <= 5; to++ {
				if to <= nodes && to != me {
					l = append(l, digestOf(me, to, 2, "a", "b"))
				}
			}
			wantMsgs(t, fmt.Sprintf("Tick(%d) of %d", nodes, me), n.Tick(nodes), append(l, ackOf(me, 0, 2))...)
		}
	}
}

// TestTickOf: what is told is what the node has.
func TestTickOf(t *testing.T) {
	n := opened(t, 2, dev.New())
	wantMsgs(t, "Tick", n.Tick(3), digestOf(2, 1, 0), digestOf(2, 3, 0), ackOf(2, 0, 0))
	ingests(t, n, "b y")
	wantMsgs(t, "Tick", n.Tick(3), digestOf(2, 1, 0, "b"), digestOf(2, 3, 0, "b"), ackOf(2, 0, 0))
	follows(t, n, full(1))
	wantMsgs(t, "Tick", n.Tick(3), digestOf(2, 1, 1, "b"), digestOf(2, 3, 1, "b"), ackOf(2, 0, 1))
	wantTake(t, n, postsOf(1, 2, "0 x", "a x", "c x"))
	follows(t, n, lets(2, "b"))
	wantMsgs(t, "Tick", n.Tick(3), digestOf(2, 1, 2, "0", "a", "b", "c"), digestOf(2, 3, 2, "0", "a", "b", "c"), ackOf(2, 0, 2))
}

// TestTickMost: as many posts as there may be.
func TestTickMost(t *testing.T) {
	n := opened(t, 5, dev.New())
	var ids []string
	for i := range 64 {
		ids = append(ids, fmt.Sprintf("%016d", i))
		ingests(t, n, ids[i]+" ")
	}
	l := n.Tick(2)
	wantMsgs(t, "Tick", l, digestOf(5, 1, 0, ids...), digestOf(5, 2, 0, ids...), ackOf(5, 0, 0))
	for _, m := range l {
		if !msg.Right(m) {
			t.Fatalf("%.200s may not be", shown(m))
		}
	}
}

// TestTickMakes: each tick makes one post, the first one that is stale.
func TestTickMakes(t *testing.T) {
	d := dev.New()
	n := opened(t, 1, d)
	ingests(t, n, "c <b>z", "a <b>x", "b <b>y")
	for range 2 {
		n.Tick(5)
	}
	if l := recordsOf(t, d); len(l) != 3 {
		t.Fatalf("the records are %q", l)
	}
	follows(t, n, lets(1, "b"))
	front := recordsOf(t, d)
	n.Tick(0)
	wantRecords(t, d, append(front, "ca\n<b>x</b>")...)
	n.Tick(5)
	wantRecords(t, d, append(front, "ca\n<b>x</b>", "cb\n<b>y</b>")...)
	// One that is taken in meanwhile comes when it is the first one.
	ingests(t, n, "0 <i>w")
	n.Tick(-1)
	wantRecords(t, d, append(front, "ca\n<b>x</b>", "cb\n<b>y</b>", "p0\n<i>w", "c0\nw")...)
	wantNotServed(t, n, "c", api.ErrWait)
	follows(t, n, lets(2))
	n.Tick(1)
	wantServed(t, n, "0", "w")
	wantNotServed(t, n, "a", api.ErrWait)
	for range 3 {
		n.Tick(1)
	}
	for _, id := range []string{"a x", "b y", "c z"} {
		wantServed(t, n, id[:1], id[2:])
	}
	all := recordsOf(t, d)
	n.Tick(5)
	wantRecords(t, d, all...)
}

// TestTickNoRoom: a post that can't be made stays ahead of the others, and what
// is told is told.
func TestTickNoRoom(t *testing.T) {
	d := dev.New()
	n := opened(t, 1, d)
	ingests(t, n, "a <b>123456", "b ")
	follows(t, n, lets(1, "b"))
	fill(t, d, n, 10)
	all := recordsOf(t, d)
	for range 3 {
		wantMsgs(t, "Tick", n.Tick(2), digestOf(1, 2, 1, n.IDs()...), ackOf(1, 0, 1))
		wantRecords(t, d, all...)
		wantNotServed(t, n, "a", api.ErrWait)
		wantNotServed(t, n, "b", api.ErrWait)
	}
}

// TestTickDead: without power, too, a node tells what it has.
func TestTickDead(t *testing.T) {
	d := dev.New()
	n := opened(t, 1, d)
	ingests(t, n, "a x")
	follows(t, n, lets(1, "b"))
	d.Arm(1)
	for range 3 {
		wantMsgs(t, "Tick", n.Tick(2), digestOf(1, 2, 1, "a"), ackOf(1, 0, 1))
		wantNotServed(t, n, "a", api.ErrWait)
	}
	want(t, "Ingest", n.Ingest("b", "y"), api.ErrDead)
	wantMsgs(t, "Tick", n.Tick(2), digestOf(1, 2, 1, "a"), ackOf(1, 0, 1))
	d.Restart(0)
	n = opened(t, 1, d)
	n.Tick(0)
	wantServed(t, n, "a", "x")
}

// P18.3

// TestTakeWrong: messages that may not be, that are for another one, or that no
// node takes, change nothing.
func TestTakeWrong(t *testing.T) {
	large := strings.Repeat("x", 2001)
	many := postsOf(1, 3)
	manyIDs := digestOf(1, 3, 0)
	for i := range 65 {
		many.Posts = append(many.Posts, api.Post{ID: fmt.Sprint(100 + i)})
		manyIDs.IDs = append(manyIDs.IDs, many.Posts[i].ID)
	}
	loose := lets(3, "script")
	wrong := []api.Msg{
		{}, {To: 3}, {From: 1, To: 3}, {Kind: 5, From: 1, To: 3}, {Kind: -1, From: 1, To: 3}, {Kind: math.MaxInt, From: 1, To: 3}, {Kind: math.MinInt, From: 1, To: 3},
		ackOf(1, 3, 0), ackOf(0, 3, 2), ackOf(2, 3, -1), ackOf(1, 3, 1000001), ackOf(1, 0, 2), ackOf(3, 3, 0),
		digestOf(1, 3, -1), digestOf(1, 3, 1000001), digestOf(1, 3, 0, ""), digestOf(1, 3, 0, "b", "a"), digestOf(1, 3, 0, "a", "a"), digestOf(1, 3, 0, strings.Repeat("a", 17)), manyIDs,
		postsOf(1, 3, "c x", "b x"), postsOf(1, 3, "c x", "c x"), postsOf(1, 3, " x"), postsOf(1, 3, "c "+large), postsOf(1, 3, "c x", "d "+large), postsOf(1, 3, strings.Repeat("c", 17)+" x"), many,
		policyOf(1, 3, api.Policy{}), policyOf(1, 3, loose), policyOf(0, 3, api.Policy{Epoch: 3, Depth: 65, Nodes: 1, Bytes: 1}),
	}
	// What its kind does not have.
	for _, m := range []api.Msg{digestOf(1, 3, 0), postsOf(1, 3, "c x"), policyOf(1, 3, lets(3))} {
		for _, more := range []api.Msg{digestOf(1, 3, 1), digestOf(1, 3, 0, "c"), postsOf(1, 3, "c x"), policyOf(1, 3, lets(3))} {
			if m.Kind == more.Kind || m.Kind == api.MDigest && more.Kind == api.MDigest {
				continue
			}
			both := m
			both.Epoch += more.Epoch
			both.IDs = append(both.IDs, more.IDs...)
			both.Posts = append(both.Posts, more.Posts...)
			if more.Kind == api.MPolicy {
				both.Policy = more.Policy
			}
			wrong = append(wrong, both)
		}
	}
	// For another one, from itself, and from none.
	for _, m := range []api.Msg{digestOf(1, 3, 0), postsOf(1, 3, "c x"), policyOf(1, 3, lets(3))} {
		for _, to := range append(noNodes(), 1, 2, 4, 5) {
			m.From, m.To = 3, to
			wrong = append(wrong, m)
			m.From = (to&1 + 1) % 6
			wrong = append(wrong, m)
		}
		for _, from := range append(noNodes(), 3) {
			m.From, m.To = from, 3
			if from != 0 {
				wrong = append(wrong, m)
			}
		}
	}
	d := dev.New()
	n := opened(t, 3, d)
	ingests(t, n, "a x", "b y")
	follows(t, n, full(1), lets(2))
	all := recordsOf(t, d)
	for _, m := range wrong {
		wantNotTaken(t, n, m, api.ErrArg)
	}
	wantHas(t, n, 2, "a b")
	wantRecords(t, d, all...)
	// While the power is gone, too.
	d.Arm(0)
	want(t, "Ingest", n.Ingest("c", "x"), api.ErrDead)
	for _, m := range wrong {
		wantNotTaken(t, n, m, api.ErrArg)
	}
}

// TestTakeDigestPosts: posts that are not among the IDs are told, whole, and
// no other ones.
func TestTakeDigestPosts(t *testing.T) {
	n := nodeOf(t, 4, 0, "c <b>\x00z\xff", "a x", "b ", "0 y")
	for _, c := range []struct{ ids, told string }{
		{"", "0 y,a x,b ,c <b>\x00z\xff"},
		{"a", "0 y,b ,c <b>\x00z\xff"},
		{"0 c", "a x,b "},
		{"0 a c", "b "},
		{"0 a b c", ""},
		{"0 a b c d", ""},
		{"00 aa bb cc z", "0 y,a x,b ,c <b>\x00z\xff"},
		{"A B a b \xff", "0 y,c <b>\x00z\xff"},
		{"d e", "0 y,a x,b ,c <b>\x00z\xff"},
	} {
		for _, from := range []int{0, 1, 2, 3, 5} {
			var l []api.Msg
			if c.told != "" {
				l = append(l, postsOf(4, from, strings.Split(c.told, ",")...))
			}
			wantTake(t, n, digestOf(from, 4, 0, strings.Fields(c.ids)...), l...)
		}
	}
	wantHas(t, n, 0, "0 a b c")
}

// sized is a post of an ID with so many raw bytes.
func sized(id string, many int) string { return id + " " + strings.Repeat(id[:1], many) }

// TestTakeDigestMost: of more raw bytes than 8000 the first posts alone are told;
// behind the first one that has no room no other one is.
func TestTakeDigestMost(t *testing.T) {
	for _, c := range []struct {
		sizes []int
		told  int
	}{
		{[]int{2000, 2000, 2000, 2000}, 4},
		{[]int{2000, 2000, 2000, 2000, 1}, 4},
		{[]int{2000, 2000, 2000, 2000, 0}, 5},
		{[]int{2000, 2000, 2000, 2000, 0, 0, 0, 1, 0}, 7},
		{[]int{2000, 2000, 2000, 1999, 1, 0, 1}, 6},
		{[]int{2000, 2000, 2000, 1999, 2, 1, 0}, 4},
		{[]int{1, 2000, 2000, 2000, 2000, 0}, 4},
		{[]int{0, 2000, 2000, 2000, 2000, 0, 1}, 6},
		{[]int{2000}, 1},
		{[]int{0}, 1},
		{[]int{1600, 1600, 1600, 1600, 1600, 1600}, 5},
		{[]int{1601, 1600, 1600, 1600, 1600, 1600}, 4},
	} {
		n := opened(t, 1, dev.New())
		var posts, ids []string
		for i, size := range c.sizes {
			ids = append(ids, string(rune('a'+i)))
			posts = append(posts, sized(ids[i], size))
		}
		// The order in which they are taken in does not count.
		for i := range posts {
			ingests(t, n, posts[len(posts)-1-i])
		}
		wantTake(t, n, digestOf(2, 1, 0), postsOf(1, 2, posts[:c.told]...))
		// What is had does not count.
		ingests(t, n, sized("0", 2000))
		wantTake(t, n, digestOf(2, 1, 0, "0"), postsOf(1, 2, posts[:c.told]...))
		ingests(t, n, sized("z", 2000))
		wantTake(t, n, digestOf(2, 1, 0, append([]string{"0"}, ids[:c.told]...)...), postsOf(1, 2, append(posts[c.told:], sized("z", 2000))...))
	}
}

// TestTakeDigestMany: as many posts as there may be are told at once.
func TestTakeDigestMany(t *testing.T) {
	n := opened(t, 1, dev.New())
	var posts []string
	for i := range 64 {
		posts = append(posts, fmt.Sprintf("%016d %s", i, strings.Repeat("x", 125)))
		ingests(t, n, posts[i])
	}
	l, e := n.Take(digestOf(2, 1, 0))
	want(t, "Take", e, api.OK)
	wantMsgs(t, "Take", l, postsOf(1, 2, posts...))
	if !msg.Right(l[0]) {
		t.Fatalf("it may not be")
	}
}

// TestTakeDigestPolicy: of an epoch below the node's, the policy that comes next
// is told.
func TestTakeDigestPolicy(t *testing.T) {
	l := []api.Policy{full(1), full(2), lets(3, "b", "i"), lets(4, "i"), lets(5)}
	for many := range len(l) + 1 {
		n := opened(t, 2, dev.New())
		follows(t, n, l[:many]...)
		for _, epoch := range []int{0, 1, 2, 3, 4, 5, 6, 999999, 1000000} {
			for _, from := range []int{0, 1, 3, 4, 5} {
				var told []api.Msg
				if epoch < many {
					told = append(told, policyOf(2, from, l[epoch]))
				}
				wantTake(t, n, digestOf(from, 2, epoch), told...)
				wantTake(t, n, digestOf(from, 2, epoch, "a", "b"), told...)
			}
		}
		wantHas(t, n, many, "")
	}
}

// TestTakeDigestBoth: the posts come ahead of the policy.
func TestTakeDigestBoth(t *testing.T) {
	n := nodeOf(t, 5, 2, "a x", "b y")
	one, two := lets(1, "a", "b", "i", "p", "u"), lets(2, "b", "i", "p", "u")
	wantTake(t, n, digestOf(1, 5, 0), postsOf(5, 1, "a x", "b y"), policyOf(5, 1, one))
	wantTake(t, n, digestOf(1, 5, 1, "a"), postsOf(5, 1, "b y"), policyOf(5, 1, two))
	wantTake(t, n, digestOf(1, 5, 2, "a"), postsOf(5, 1, "b y"))
	wantTake(t, n, digestOf(1, 5, 1, "a", "b"), policyOf(5, 1, two))
	wantTake(t, n, digestOf(1, 5, 2, "a", "b"))
	wantTake(t, n, digestOf(1, 5, 3, "a", "b", "c"))
}

// TestTakeDigestDead: a digest is answered without power, too, and no digest is a
// write.
func TestTakeDigestDead(t *testing.T) {
	d := dev.New()
	n := opened(t, 1, d)
	ingests(t, n, "a x")
	follows(t, n, lets(1))
	d.Arm(0)
	wantTake(t, n, digestOf(2, 1, 0, "b"), postsOf(1, 2, "a x"), policyOf(1, 2, lets(1)))
	if d.Off() {
		t.Fatal("a digest is a write")
	}
	want(t, "Ingest", n.Ingest("b", "y"), api.ErrDead)
	wantTake(t, n, digestOf(2, 1, 0, "b"), postsOf(1, 2, "a x"), policyOf(1, 2, lets(1)))
}

func TestTakePosts(t *testing.T) {
	d := dev.New()
	n := opened(t, 2, d)
	large := strings.Repeat("\xff", 2000)
	wantTake(t, n, postsOf(1, 2))
	wantTake(t, n, postsOf(1, 2, "b <b>\x00\n", "c ", "d "+large))
	wantRecords(t, d, "pb\n<b>\x00\n", "pc\n", "pd\n"+large)
	wantHas(t, n, 0, "b c d")
	// Those that are there stay as they were taken in first.
	wantTake(t, n, postsOf(0, 2, "b other", "c other", "d "))
	wantTake(t, n, postsOf(0, 2, "a x", "b other", "bb y", "c other"))
	wantRecords(t, d, "pb\n<b>\x00\n", "pc\n", "pd\n"+large, "pa\nx", "pbb\ny")
	wantHas(t, n, 0, "a b bb c d")
	wantTake(t, n, digestOf(1, 2, 0, "d"), postsOf(2, 1, "a x", "b <b>\x00\n", "bb y", "c "))
	follows(t, n, lets(1))
	wantNotServed(t, n, "a", api.ErrWait)
	n.Tick(0)
	wantServed(t, n, "a", "x")
}

// TestTakePostsArg: behind a post that may not be taken in none is taken; those
// ahead of it stay.
func TestTakePostsArg(t *testing.T) {
	for _, c := range []struct {
		posts, ids string
		e          api.Errno
	}{
		{"A x", "q", api.ErrArg},
		{"A x,a x", "q", api.ErrArg},
		{"a x,b x,c- x,d x", "a b q", api.ErrArg},
		{"\x00 x,a x", "q", api.ErrArg},
		{"a x,aé x,b x", "a q", api.ErrArg},
		{"a x,\xff x", "a q", api.ErrArg},
		{"a x,q y,q_ x,r x", "a q", api.ErrArg},
		{"a x,q y,r x", "a q r", api.OK},
		{"q y", "q", api.OK},
	} {
		d := dev.New()
		n := opened(t, 1, d)
		ingests(t, n, "q z")
		m := postsOf(4, 1, strings.Split(c.posts, ",")...)
		for range 2 {
			if c.e == api.OK {
				wantTake(t, n, m)
			} else {
				wantNotTaken(t, n, m, c.e)
			}
			wantHas(t, n, 0, c.ids)
			if l := recordsOf(t, d); len(l) != len(strings.Fields(c.ids)) || l[0] != "pq\nz" {
				t.Fatalf("the records are %q", l)
			}
		}
	}
}

// TestTakePostsFull: behind 64 posts there is room for none; those that are there
// are no error.
func TestTakePostsFull(t *testing.T) {
	n := opened(t, 1, dev.New())
	var ids []string
	for i := range 62 {
		ids = append(ids, fmt.Sprint(100+i))
		ingests(t, n, ids[i]+" x")
	}
	wantNotTaken(t, n, postsOf(2, 1, "0 x", "100 y", "a x", "b x", "c x"), api.ErrFull)
	all := "0 " + strings.Join(ids, " ") + " a"
	wantHas(t, n, 0, all)
	wantTake(t, n, postsOf(2, 1, "0 x", "100 y", "a x"))
	wantNotTaken(t, n, postsOf(2, 1, "0 x", "100 y", "a x", "b x"), api.ErrFull)
	// What may be no ID is that, behind 64 posts, too.
	wantNotTaken(t, n, postsOf(2, 1, "A x", "b x"), api.ErrArg)
	wantHas(t, n, 0, all)
}

// TestTakePostsNoRoom: behind a post for which the device has no room none is
// taken, though there would be room for it.
func TestTakePostsNoRoom(t *testing.T) {
	d := dev.New()
	n := opened(t, 1, d)
	fill(t, d, n, 20)
	ids := strings.Join(n.IDs(), " ")
	wantNotTaken(t, n, postsOf(2, 1, "a 1", "b "+strings.Repeat("x", 20), "c 1"), api.ErrFull)
	wantHas(t, n, 0, "a "+ids)
	wantTake(t, n, postsOf(2, 1, "a 1", "c 1"))
	wantHas(t, n, 0, "a c "+ids)
}

// TestTakePostsDead: the power goes at each of its writes.
func TestTakePostsDead(t *testing.T) {
	m := postsOf(2, 1, "a x", "b y", "q other", "s z")
	for armed := range 6 {
		d := dev.New()
		n := opened(t, 1, d)
		ingests(t, n, "q w")
		d.Arm(armed)
		wantNotTaken(t, n, m, api.ErrDead)
		had := []string{"q", "a q", "a b q"}[armed/2]
		wantHas(t, n, 0, had)
		wantNotTaken(t, n, m, api.ErrDead)
		wantTake(t, n, postsOf(2, 1, "q other"))
		wantTake(t, n, postsOf(2, 1))
		wantHas(t, n, 0, had)
		d.Restart(0)
		n = opened(t, 1, d)
		wantHas(t, n, 0, had)
		wantTake(t, n, m)
		wantTake(t, n, digestOf(2, 1, 0), postsOf(1, 2, "a x", "b y", "q w", "s z"))
	}
}

func TestTakePolicy(t *testing.T) {
	d := dev.New()
	n := opened(t, 3, d)
	ingests(t, n, "a <b>x</b>")
	wantNotTaken(t, n, policyOf(0, 3, full(2)), api.ErrGap)
	wantTake(t, n, policyOf(0, 3, full(1)))
	wantHas(t, n, 1, "a")
	// Whoever it is from.
	wantTake(t, n, policyOf(5, 3, lets(2, "b")))
	wantHas(t, n, 2, "a")
	for _, epoch := range []int{1, 2, 4, 1000000} {
		wantNotTaken(t, n, policyOf(0, 3, lets(epoch, "b")), api.ErrGap)
	}
	wantNotTaken(t, n, policyOf(0, 3, lets(3, "b", "i")), api.ErrLoose)
	wantNotTaken(t, n, policyOf(0, 3, full(3)), api.ErrLoose)
	wantHas(t, n, 2, "a")
	wantRecords(t, d, "pa\n<b>x</b>", recordOf(t, full(1)), recordOf(t, lets(2, "b")))
	wantTake(t, n, policyOf(1, 3, lets(3, "b")))
	n.Tick(0)
	wantServed(t, n, "a", "<b>x</b>")
	wantTake(t, n, policyOf(2, 3, lets(4)))
	wantNotServed(t, n, "a", api.ErrWait)
	wantHas(t, n, 4, "a")
}

func TestTakePolicyNoRoom(t *testing.T) {
	d := dev.New()
	n := opened(t, 1, d)
	follows(t, n, lets(1))
	fill(t, d, n, 20)
	all := recordsOf(t, d)
	for range 2 {
		wantNotTaken(t, n, policyOf(0, 1, lets(2)), api.ErrFull)
		wantRecords(t, d, all...)
	}
	wantNotTaken(t, n, policyOf(0, 1, lets(3)), api.ErrGap)
	wantHas(t, n, 1, strings.Join(n.IDs(), " "))
}

func TestTakePolicyDead(t *testing.T) {
	for armed := range 2 {
		for _, kept := range []int{0, 9, 9999} {
			d := dev.New()
			n := opened(t, 1, d)
			follows(t, n, lets(1, "b"))
			d.Arm(armed)
			for range 2 {
				wantNotTaken(t, n, policyOf(0, 1, lets(2)), api.ErrDead)
				wantHas(t, n, 1, "")
			}
			wantNotTaken(t, n, policyOf(0, 1, lets(3)), api.ErrGap)
			d.Restart(kept)
			n = opened(t, 1, d)
			if armed == 1 && kept == 9999 {
				wantHas(t, n, 2, "")
				continue
			}
			wantHas(t, n, 1, "")
			wantTake(t, n, policyOf(0, 1, lets(2)))
		}
	}
}

// P18.4 (see model_test.go, too.)

// hears lets a node hear of what another one has, and the other one take the
// answers, as texts.
func hears(t *testing.T, n, other *Node) {
	t.Helper()
	for _, m := range other.Tick(5) {
		if m.To != n.me {
			continue
		}
		l, e := n.Take(coded(t, m))
		want(t, "Take of a digest", e, api.OK)
		for _, m := range l {
			l, e := other.Take(coded(t, m))
			want(t, "Take of an answer", e, api.OK)
			wantMsgs(t, "Take of an answer", l)
		}
	}
}

// coded is a message that went as a text.
func coded(t *testing.T, m api.Msg) api.Msg {
	t.Helper()
	text, e := msg.Encode(m)
	want(t, "msg.Encode", e, api.OK)
	m, e = msg.Decode(text)
	want(t, "msg.Decode", e, api.OK)
	return m
}

// TestTwoNodes: two nodes that hear of one another again and again have the same
// posts and policies at last, and serve them the same.
func TestTwoNodes(t *testing.T) {
	for many := range 30 {
		one, two := nodeOf(t, 1, many%5), nodeOf(t, 2, many%4)
		var all []string
		for i := range many {
			n := one
			if i*i%3 == 0 {
				n = two
			}
			all = append(all, fmt.Sprintf("p%02d", i*7%30))
			ingests(t, n, fmt.Sprintf("%s <b>%d</b>%s", all[i], i, strings.Repeat("<i>x", i*61%60)))
		}
		slices.Sort(all)
		epoch := max(many%5, many%4)
		for range many + 9 {
			hears(t, one, two)
			hears(t, two, one)
		}
		wantHas(t, one, epoch, strings.Join(all, " "))
		wantHas(t, two, epoch, strings.Join(all, " "))
		for _, id := range all {
			first, e := one.Serve(id)
			second, f := two.Serve(id)
			if first != second || e != f || (e == api.OK) != (epoch > 0) {
				t.Fatalf("%s is served %.60q, %v, and %.60q, %v", id, first, e, second, f)
			}
		}
	}
}

// TestTwoNodesAtLast: each hearing brings at least one post, if one is lacked.
func TestTwoNodesAtLast(t *testing.T) {
	one, two := opened(t, 1, dev.New()), opened(t, 2, dev.New())
	var ids []string
	for i := range 29 {
		ids = append(ids, fmt.Sprintf("p%02d", i))
		ingests(t, one, fmt.Sprintf("%s %02d%s", ids[i], i, strings.Repeat("\xff", 1998)))
	}
	for i := range 8 {
		wantHas(t, two, 0, strings.Join(ids[:min(4*i, 29)], " "))
		hears(t, one, two)
	}
	wantHas(t, two, 0, strings.Join(ids, " "))
}

// spoil changes all that a message's lists are, and lays more behind them.
func spoil(m *api.Msg) {
	p := &m.Policy
	for _, list := range [][]string{m.IDs, p.Elems, p.Attrs, p.Schemes, p.Classes, p.Props} {
		for i := range list {
			list[i] = "changed"
		}
		_ = append(list, "changed")
	}
	for i := range m.Posts {
		m.Posts[i] = api.Post{ID: "changed", Raw: "changed"}
	}
	_ = append(m.Posts, api.Post{ID: "changed"})
	m.Kind, m.From, m.To, m.Epoch = 9, 9, 9, 9
}

// TestTellsItsOwn: what is told is the caller's own, and no two lists of one
// answer are shared.
func TestTellsItsOwn(t *testing.T) {
	n := opened(t, 2, dev.New())
	ingests(t, n, "a x", "b y")
	follows(t, n, full(1))
	told := []api.Msg{digestOf(2, 1, 1, "a", "b"), digestOf(2, 3, 1, "a", "b"), digestOf(2, 4, 1, "a", "b"), digestOf(2, 5, 1, "a", "b"), ackOf(2, 0, 1)}
	answers := []api.Msg{postsOf(2, 1, "a x", "b y"), policyOf(2, 1, full(1))}
	for range 2 {
		l := n.Tick(5)
		for i := range l {
			wantMsgs(t, "Tick", l[i:], told[i:]...)
			spoil(&l[i])
		}
		_ = append(l, ackOf(1, 1, 1))
		l, e := n.Take(digestOf(1, 2, 0))
		want(t, "Take", e, api.OK)
		for i := range l {
			wantMsgs(t, "Take", l[i:], answers[i:]...)
			spoil(&l[i])
		}
		ids := n.IDs()
		ids[0], ids[1] = "z", "z"
		wantHas(t, n, 1, "a b")
	}
	n.Tick(0)
	wantServed(t, n, "a", "x")
}

// TestKeepsItsOwn: what is handed in is not kept.
func TestKeepsItsOwn(t *testing.T) {
	n := opened(t, 2, dev.New())
	for _, m := range []api.Msg{postsOf(1, 2, "a x", "b y"), policyOf(1, 2, full(1)), digestOf(1, 2, 0, "a")} {
		_, e := n.Take(m)
		want(t, "Take", e, api.OK)
		spoil(&m)
	}
	wantTake(t, n, digestOf(3, 2, 0), postsOf(2, 3, "a x", "b y"), policyOf(2, 3, full(1)))
	// What was told stays as it was told.
	l := n.Tick(1)
	ingests(t, n, "0 w")
	follows(t, n, lets(2))
	wantMsgs(t, "Tick", l, digestOf(2, 1, 1, "a", "b"), ackOf(2, 0, 1))
}

// TestBytesOfItsOwn: texts that are handed in are not kept, down to their bytes.
func TestBytesOfItsOwn(t *testing.T) {
	c := []byte("abc")
	text := unsafe.String(&c[0], len(c))
	n := opened(t, 2, dev.New())
	want(t, "Ingest", n.Ingest(text, text), api.OK)
	c[0] = 'z'
	_, e := n.Take(api.Msg{Kind: api.MPosts, From: 1, To: 2, Posts: []api.Post{{ID: text, Raw: text}}})
	want(t, "Take", e, api.OK)
	p := lets(1)
	p.Classes = []string{text}
	_, e = n.Take(policyOf(1, 2, p))
	want(t, "Take", e, api.OK)
	c[0], c[1] = 'y', 'y'
	p.Classes = []string{"zbc"}
	wantTake(t, n, digestOf(3, 2, 0), postsOf(2, 3, "abc abc", "zbc zbc"), policyOf(2, 3, p))
}
