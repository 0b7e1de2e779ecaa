package store

import (
	"math"
	"reflect"
	"slices"
	"strconv"
	"strings"
	"testing"
	"unsafe"

	"verso/api"
	"verso/chain"
	"verso/dev"
	"verso/flog"
	"verso/policy"
	"verso/san"
)

// The tests of ordinary calls, and of the edges that the chapter names, say
// what they want one by one. Those in model_test.go hold the package against
// the chapter's words, at many records and many lists of calls.

// least is the policy of an epoch that lets nothing, of pages that are not large.
func least(epoch int) api.Policy {
	return api.Policy{Epoch: epoch, Depth: 9, Nodes: 99, Bytes: 2000}
}

// full is the policy of an epoch with all lists.
func full(epoch int) api.Policy {
	return api.Policy{
		Epoch: epoch, Elems: []string{"a", "b", "i"}, Attrs: []string{"*.class", "a.href"}, Schemes: []string{"http", "https"},
		Classes: []string{"mention", "tag"}, Props: []string{"color"}, Depth: 9, Nodes: 99, Bytes: 2000,
	}
}

// lets is the policy of an epoch that lets some elements.
func lets(epoch int, elems ...string) api.Policy {
	p := least(epoch)
	p.Elems = elems
	return p
}

// same tells whether things are the same; an empty list is as one that is nil.
func same(p, q api.Policy) bool {
	for _, one := range []*api.Policy{&p, &q} {
		for _, list := range []*[]string{&one.Elems, &one.Attrs, &one.Schemes, &one.Classes, &one.Props} {
			if len(*list) == 0 {
				*list = nil
			}
		}
	}
	return reflect.DeepEqual(p, q)
}

// textOf is a policy's text.
func textOf(t *testing.T, p api.Policy) string {
	t.Helper()
	text, e := policy.Text(p)
	want(t, "policy.Text", e, api.OK)
	return text
}

// want asks what a call answered.
func want(t *testing.T, what string, got, e api.Errno) {
	t.Helper()
	if got != e {
		t.Errorf("%s answers %v, not %v", what, got, e)
	}
}

// opened is a device's store.
func opened(t *testing.T, d *dev.Dev) *Store {
	t.Helper()
	s, e := Open(d)
	if s == nil || e != api.OK {
		t.Fatalf("Open: %v, %v", s != nil, e)
	}
	return s
}

// notOpened asks that Open answers nothing, and an error.
func notOpened(t *testing.T, d *dev.Dev, e api.Errno) {
	t.Helper()
	if s, got := Open(d); s != nil || got != e {
		t.Errorf("Open: %v, %v, not %v", s != nil, got, e)
	}
}

// recordsOf are the records of a device.
func recordsOf(t *testing.T, d *dev.Dev) []string {
	t.Helper()
	_, texts, e := flog.Open(d)
	want(t, "flog.Open", e, api.OK)
	return texts
}

// wantRecords asks for a device's records.
func wantRecords(t *testing.T, d *dev.Dev, records ...string) {
	t.Helper()
	if got := recordsOf(t, d); !slices.Equal(got, records) {
		t.Errorf("the records are %.60q, not %.60q", got, records)
	}
}

// devOf is a device with records.
func devOf(t *testing.T, records ...string) *dev.Dev {
	t.Helper()
	d := dev.New()
	l, _, e := flog.Open(d)
	want(t, "flog.Open", e, api.OK)
	for _, record := range records {
		want(t, "flog.Append", l.Append(record), api.OK)
	}
	return d
}

// fill leaves so many bytes of room on a device, by posts of its store whose IDs
// begin with x.
func fill(t *testing.T, d *dev.Dev, s *Store, room int) {
	t.Helper()
	left := func() int { return api.MostDisk - len(d.Bytes()) - room }
	for i := 0; left() > 2100; i++ {
		if e := s.Post("x"+strconv.Itoa(i), strings.Repeat("w", api.MostRaw)); e != api.OK {
			t.Fatalf("Post: %v, with %d bytes left", e, left())
		}
	}
	// A frame's head, the letter, an ID of three bytes, and what ends it.
	want(t, "Post", s.Post("xyz", strings.Repeat("w", max(left()/2-8, 0))), api.OK)
	want(t, "Post", s.Post("xzz", strings.Repeat("w", max(left()-8, 0))), api.OK)
	if left() != 0 {
		t.Fatalf("room is %d, not %d", room+left(), room)
	}
}

// wantKept asks for a post, as it is kept.
func wantKept(t *testing.T, s *Store, k api.Kept) {
	t.Helper()
	if got, is := s.Get(k.ID); !is || got != k {
		t.Errorf("Get(%s) is %+v, %v, not %+v", k.ID, got, is, k)
	}
}

// wantNoPost asks that there is no post of an ID.
func wantNoPost(t *testing.T, s *Store, id string) {
	t.Helper()
	if got, is := s.Get(id); is || got != (api.Kept{}) {
		t.Errorf("Get(%s) is %+v, %v", id, got, is)
	}
	wantNotServed(t, s, id, api.ErrNone)
	want(t, "Make of none", s.Make(id), api.ErrNone)
}

// wantServed asks for the clean form that is served.
func wantServed(t *testing.T, s *Store, id, form string) {
	t.Helper()
	if got, e := s.Serve(id); got != form || e != api.OK {
		t.Errorf("Serve(%s) is %.60q, %v, not %.60q", id, got, e, form)
	}
}

// wantNotServed asks that nothing is served.
func wantNotServed(t *testing.T, s *Store, id string, e api.Errno) {
	t.Helper()
	if got, gotE := s.Serve(id); got != "" || gotE != e {
		t.Errorf("Serve(%s) is %.60q, %v, not %v", id, got, gotE, e)
	}
}

// wantIDs asks for all IDs, and for those that are stale.
func wantIDs(t *testing.T, s *Store, ids, stale string) {
	t.Helper()
	if got := s.IDs(); !slices.Equal(got, strings.Fields(ids)) {
		t.Errorf("IDs are %q, not %s", got, ids)
	}
	if got := s.Stale(); !slices.Equal(got, strings.Fields(stale)) {
		t.Errorf("Stale are %q, not %s", got, stale)
	}
}

// wantChain asks for the policies.
func wantChain(t *testing.T, s *Store, l ...api.Policy) {
	t.Helper()
	if got := s.Chain(); !slices.EqualFunc(got, l, same) {
		t.Errorf("the chain is %+v, not %+v", got, l)
	}
}

func TestExamples(t *testing.T) {
	d := dev.New()
	s := opened(t, d)
	want(t, "Post", s.Post("a", "<b>x</b>"), api.OK)
	want(t, "Follow", s.Follow(least(1)), api.OK)
	want(t, "Make", s.Make("a"), api.OK)
	wantServed(t, s, "a", "x")
	want(t, "Follow", s.Follow(least(2)), api.OK)
	wantNotServed(t, s, "a", api.ErrWait)
	wantRecords(t, d, "pa\n<b>x</b>", "y"+textOf(t, least(1)), "ca\nx", "y"+textOf(t, least(2)))
}

// P14.1

func TestOpenNone(t *testing.T) {
	d := dev.New()
	s := opened(t, d)
	wantIDs(t, s, "", "")
	wantChain(t, s)
	for _, id := range []string{"", "a", "A", "a\n"} {
		wantNoPost(t, s, id)
	}
	wantRecords(t, d)
}

// TestOpenOff: while the power is gone there is nothing, whatever the records are.
func TestOpenOff(t *testing.T) {
	for _, records := range [][]string{nil, {"pa\nx"}, {"wrong"}, {"pa\nx", "pa\nx"}} {
		d := devOf(t, records...)
		d.Arm(0)
		want(t, "dev.Sync", d.Sync(), api.ErrDead)
		for range 3 {
			notOpened(t, d, api.ErrDead)
		}
		d.Restart(0)
		wantRecords(t, d, records...)
	}
	notOpened(t, nil, api.ErrDead)
}

// TestOpenTrims: what is no whole record is trimmed, and the power may go at that.
func TestOpenTrims(t *testing.T) {
	d := devOf(t, "pa\nx")
	all := d.Bytes()
	want(t, "dev.Append", d.Append([]byte("\x00\x00\x09pb\nx")), api.OK)
	want(t, "dev.Sync", d.Sync(), api.OK)
	d.Arm(0)
	notOpened(t, d, api.ErrDead)
	d.Restart(0)
	d.Arm(1)
	wantIDs(t, opened(t, d), "a", "a")
	if string(d.Bytes()) != string(all) {
		t.Errorf("the bytes are %q", d.Bytes())
	}
	// Of whole records Open is no write.
	wantIDs(t, opened(t, d), "a", "a")
	want(t, "dev.Sync", d.Sync(), api.ErrDead)
}

// TestOpenRecords: all that records say is kept.
func TestOpenRecords(t *testing.T) {
	one, two, three := "y"+textOf(t, full(1)), "y"+textOf(t, lets(2, "b")), "y"+textOf(t, lets(3, "b"))
	raw := "<b>x</b>\n\x00\xff\r\n"
	s := opened(t, devOf(t, "pb\n"+raw, "pa\n", one, "cb\none\n\xff", "p0\n\n", two, "ca\ntwo", "cb\n", three, "c0\nthree"))
	wantIDs(t, s, "0 a b", "a b")
	wantChain(t, s, full(1), lets(2, "b"), lets(3, "b"))
	wantKept(t, s, api.Kept{ID: "0", Raw: "\n", Epoch: 3, Clean: "three"})
	wantKept(t, s, api.Kept{ID: "a", Epoch: 2, Clean: "two"})
	wantKept(t, s, api.Kept{ID: "b", Raw: raw, Epoch: 2})
	wantServed(t, s, "0", "three")
	wantNotServed(t, s, "a", api.ErrWait)
	wantNotServed(t, s, "b", api.ErrWait)
	// Posts without a policy, and policies without posts.
	s = opened(t, devOf(t, "pb\n"+raw, "pa\nx"))
	wantIDs(t, s, "a b", "a b")
	wantKept(t, s, api.Kept{ID: "b", Raw: raw})
	s = opened(t, devOf(t, one, two, three))
	wantIDs(t, s, "", "")
	wantChain(t, s, full(1), lets(2, "b"), lets(3, "b"))
	// A post behind a policy is stale, too.
	wantIDs(t, opened(t, devOf(t, one, "pa\nx")), "a", "a")
}

// TestOpenMost: the longest ID, the largest post, as many as there may be, and
// the longest form.
func TestOpenMost(t *testing.T) {
	id := strings.Repeat("z9", 8)
	raw := strings.Repeat("\xff", api.MostRaw)
	form := strings.Repeat("f", 20000-len(id)-2)
	s := opened(t, devOf(t, "p"+id+"\n"+raw, "y"+textOf(t, least(1)), "c"+id+"\n"+form))
	wantKept(t, s, api.Kept{ID: id, Raw: raw, Epoch: 1, Clean: form})
	wantServed(t, s, id, form)

	var records, ids []string
	for i := range api.MostPosts {
		ids = append(ids, strconv.Itoa(100+i))
		records = append(records, "p"+ids[i]+"\nx")
	}
	wantIDs(t, opened(t, devOf(t, records...)), strings.Join(ids, " "), strings.Join(ids, " "))
	notOpened(t, devOf(t, append(records, "pmore\nx")...), api.ErrForm)
}

// TestOpenWrong: a record that could not have been appended behind those ahead,
// whatever comes behind it.
func TestOpenWrong(t *testing.T) {
	one, two, three := "y"+textOf(t, full(1)), "y"+textOf(t, full(2)), "y"+textOf(t, full(3))
	for _, c := range []struct{ front, wrong []string }{
		// None of the three kinds.
		{nil, []string{"", "\n", "x", "P", "Pa\nx", "a\nx", " pa\nx", "xa\nx", "\x00", "\xff", "epoch 1\ncaps 1 1 1\n", "Y", "z", "Ca\nx"}},
		// No ID, or nothing behind it.
		{nil, []string{"p", "p\n", "p\nx", "pa", "pA\nx", "p-\nx", "p_\nx", "p \nx", "pa b\nx", " \nx", "p`\nx", "p{\nx", "p/\nx", "p:\nx", "p@\nx", "p[\nx", "pé\nx", "p\xff\nx", "p\x00\nx", "pa\r\nx", "pa,x", "p" + strings.Repeat("a", 17) + "\nx", "pa" + strings.Repeat("a", 17)}},
		// A post that is there, and one that is too large.
		{[]string{"pa\nx"}, []string{"pa\nx", "pa\ny", "pa\n"}},
		{[]string{"pa\nx", one, "ca\nx"}, []string{"pa\nx", "pa\ny"}},
		{nil, []string{"pa\n" + strings.Repeat("x", api.MostRaw+1), "pa\n" + strings.Repeat("x", 19997)}},
		// No policy's text.
		{nil, []string{"y", "y\n", "yx", "y" + one, one + "\n", one[:len(one)-1], "y\n" + one[1:], "y " + one[1:], strings.ToUpper(one), "yepoch 1\ncaps 1 1\n", "yepoch 1\ncaps 01 1 1\n", "yepoch 1\ncaps 65 1 1\n", "yepoch 1\nelem script\ncaps 1 1 1\n", "yepoch 1\nelem b\nelem a\ncaps 1 1 1\n", "yepoch 1\nelem li\ncaps 1 1 1\n"}},
		// No policy that comes next.
		{nil, []string{two, three, "yepoch 0\ncaps 1 1 1\n", "yepoch -1\ncaps 1 1 1\n", "yepoch 1000001\ncaps 1 1 1\n", "yepoch 1000000\ncaps 1 1 1\n"}},
		{[]string{one}, []string{one, three, "y" + textOf(t, least(1))}},
		{[]string{one, two}, []string{one, two, "y" + textOf(t, least(4))}},
		// No clean form, or of no post.
		{[]string{"pa\nx", one}, []string{"c", "c\n", "c\nx", "ca", "cb\nx", "cA\nx", "caa\nx", "c a\nx", "ca \nx", "ca,x"}},
		{[]string{one}, []string{"c", "c\n", "ca\nx"}},
		// No policy yet, or one whose form is there.
		{[]string{"pa\nx"}, []string{"ca\nx", "ca\n", "ca"}},
		{[]string{"pa\nx", "pb\nx", one, "ca\nx"}, []string{"ca\nx", "ca\n", "ca\ny"}},
		{[]string{"pa\nx", one, "ca\nx", two, "ca\nx"}, []string{"ca\nx"}},
	} {
		opened(t, devOf(t, c.front...))
		for _, wrong := range c.wrong {
			for _, behind := range [][]string{nil, {"pc\nx"}, {two}, {"ca\nx"}, {wrong}} {
				records := slices.Concat(c.front, []string{wrong}, behind)
				d := devOf(t, records...)
				all := d.Bytes()
				notOpened(t, d, api.ErrForm)
				notOpened(t, d, api.ErrForm)
				if string(d.Bytes()) != string(all) {
					t.Errorf("%.60q: the bytes are changed", records)
				}
			}
		}
	}
}

// TestOpenFreely: what only its making could tell is not asked: whether a policy
// is stricter, and whether a form is the clean one.
func TestOpenFreely(t *testing.T) {
	loose := []api.Policy{lets(1, "b"), lets(2, "b", "i"), full(3), least(4)}
	records := []string{"pa\n<b>x</b>"}
	for _, p := range loose {
		records = append(records, "y"+textOf(t, p), "ca\n<script>"+strconv.Itoa(p.Epoch))
	}
	for many := range records {
		s := opened(t, devOf(t, records[:many+1]...))
		wantChain(t, s, loose[:(many+1)/2]...)
		if many > 0 && many%2 == 0 {
			wantServed(t, s, "a", "<script>"+strconv.Itoa(many/2))
		}
	}
	// What is followed behind them is asked as ever.
	s := opened(t, devOf(t, records[:5]...))
	want(t, "Follow", s.Follow(least(3)), api.ErrLoose)
	s = opened(t, devOf(t, records[:4]...))
	want(t, "Make", s.Make("a"), api.OK)
	wantServed(t, s, "a", "<b>x</b>")
	want(t, "Post", s.Post("b", "<i>y"), api.OK)
}

// TestOpenMany: policies as many as there is room for.
func TestOpenMany(t *testing.T) {
	var records []string
	var l []api.Policy
	for size := 0; ; {
		p := api.Policy{Epoch: len(l) + 1, Depth: 1, Nodes: 1, Bytes: 1}
		record := "y" + textOf(t, p)
		size += 3 + len(record)
		if size > api.MostDisk {
			break
		}
		l, records = append(l, p), append(records, record)
	}
	s := opened(t, devOf(t, records...))
	wantChain(t, s, l...)
	if len(l) < 2000 {
		t.Errorf("%d policies", len(l))
	}
}

// P14.2

func TestPost(t *testing.T) {
	d := dev.New()
	s := opened(t, d)
	posts := []struct{ id, raw string }{
		{"b", "x"}, {"a", ""}, {"0", "\n"}, {"z9", "<b>\x00\xff\r\n</b>\n\n"}, {"aa", "x"},
		{strings.Repeat("q", 16), strings.Repeat("\xfe", api.MostRaw)}, {"9999999999999999", "€"},
	}
	var records []string
	for _, p := range posts {
		wantNoPost(t, s, p.id)
		want(t, "Post", s.Post(p.id, p.raw), api.OK)
		records = append(records, "p"+p.id+"\n"+p.raw)
		wantRecords(t, d, records...)
		wantKept(t, s, api.Kept{ID: p.id, Raw: p.raw})
		wantNotServed(t, s, p.id, api.ErrWait)
		// It is synced.
		d.Restart(0)
		s = opened(t, d)
		wantKept(t, s, api.Kept{ID: p.id, Raw: p.raw})
	}
	ids := "0 9999999999999999 a aa b " + strings.Repeat("q", 16) + " z9"
	wantIDs(t, s, ids, ids)
}

func TestPostArg(t *testing.T) {
	d := dev.New()
	s := opened(t, d)
	for _, id := range []string{"", "A", "Z", "aB", "-", "_", ".", " ", "a ", " a", "a b", "`", "{", "/", ":", "@", "[", "é", "a\n", "\n", "a\nb", "\x00", "a\x00", "\xff", "a\xff", "٣", "ⅳ", strings.Repeat("a", 17), strings.Repeat("a", 100000)} {
		for _, raw := range []string{"", "x", strings.Repeat("x", api.MostRaw+1)} {
			want(t, "Post", s.Post(id, raw), api.ErrArg)
		}
		wantNoPost(t, s, id)
	}
	wantIDs(t, s, "", "")
	wantRecords(t, d)
	for c := range 256 {
		e := api.ErrArg
		if strings.IndexByte("abcdefghijklmnopqrstuvwxyz0123456789", byte(c)) >= 0 {
			e = api.OK
		}
		want(t, "Post of "+strconv.Itoa(c), s.Post(string([]byte{byte(c)}), "x"), e)
	}
	if many := len(s.IDs()); many != 36 {
		t.Errorf("%d posts", many)
	}
}

func TestPostTwice(t *testing.T) {
	d := devOf(t, "pa\nx", "y"+textOf(t, least(1)), "pb\ny", "cb\ny")
	s := opened(t, d)
	for _, raw := range []string{"x", "", "z", strings.Repeat("x", api.MostRaw+1)} {
		want(t, "Post", s.Post("a", raw), api.ErrTwice)
		want(t, "Post", s.Post("b", raw), api.ErrTwice)
	}
	wantKept(t, s, api.Kept{ID: "a", Raw: "x"})
	wantKept(t, s, api.Kept{ID: "b", Raw: "y", Epoch: 1, Clean: "y"})
	wantIDs(t, s, "a b", "a")
	wantRecords(t, d, "pa\nx", "y"+textOf(t, least(1)), "pb\ny", "cb\ny")
}

func TestPostLarge(t *testing.T) {
	d := dev.New()
	s := opened(t, d)
	for _, many := range []int{2001, 2002, 19990, 20000, 60001, 1 << 20} {
		want(t, "Post", s.Post("a", strings.Repeat("x", many)), api.ErrLarge)
		wantNoPost(t, s, "a")
	}
	wantRecords(t, d)
	want(t, "Post", s.Post("a", strings.Repeat("x", 2000)), api.OK)
	// Bytes count, not characters.
	want(t, "Post", s.Post("b", strings.Repeat("€", 667)), api.ErrLarge)
	want(t, "Post", s.Post("b", strings.Repeat("€", 666)+"xx"), api.OK)
}

// TestPostFull: no more posts than 64, though there is room for more.
func TestPostFull(t *testing.T) {
	d := dev.New()
	s := opened(t, d)
	for i := range api.MostPosts {
		want(t, "Post", s.Post("n"+strconv.Itoa(i), "x"), api.OK)
	}
	all := d.Bytes()
	for range 2 {
		want(t, "Post", s.Post("more", "x"), api.ErrFull)
		// The errors that are named ahead of it.
		want(t, "Post", s.Post("More", "x"), api.ErrArg)
		want(t, "Post", s.Post("n7", "x"), api.ErrTwice)
		want(t, "Post", s.Post("more", strings.Repeat("x", 2001)), api.ErrLarge)
		wantNoPost(t, s, "more")
		if len(s.IDs()) != api.MostPosts || string(d.Bytes()) != string(all) {
			t.Errorf("%d posts, %d bytes", len(s.IDs()), len(d.Bytes()))
		}
		s = opened(t, d)
	}
	// All else goes on.
	want(t, "Follow", s.Follow(least(1)), api.OK)
	want(t, "Make", s.Make("n63"), api.OK)
}

// TestPostNoRoom: the device has no room for it; less of it there is.
func TestPostNoRoom(t *testing.T) {
	d := dev.New()
	s := opened(t, d)
	fill(t, d, s, 10)
	ids, all := s.IDs(), d.Bytes()
	want(t, "Post", s.Post("a", "12345"), api.ErrFull)
	wantNoPost(t, s, "a")
	// The errors that are named ahead of it.
	want(t, "Post", s.Post("xyz", "12345"), api.ErrTwice)
	want(t, "Post", s.Post("A", "12345"), api.ErrArg)
	want(t, "Post", s.Post("a", strings.Repeat("x", 2001)), api.ErrLarge)
	if !slices.Equal(s.IDs(), ids) || !slices.Equal(s.Stale(), ids) || string(d.Bytes()) != string(all) {
		t.Errorf("what is full was changed")
	}
	want(t, "Post", s.Post("a", "1234"), api.OK)
	wantKept(t, s, api.Kept{ID: "a", Raw: "1234"})
	want(t, "Post", s.Post("b", ""), api.ErrFull)
	wantKept(t, opened(t, d), api.Kept{ID: "a", Raw: "1234"})
}

// TestPostDead: whether the record is there or not, the post is not kept until
// the store is opened anew.
func TestPostDead(t *testing.T) {
	for armed := range 2 {
		for _, keep := range []int{0, 7, 8} {
			d := dev.New()
			s := opened(t, d)
			d.Arm(armed)
			for range 3 {
				want(t, "Post", s.Post("a", "xy"), api.ErrDead)
				wantNoPost(t, s, "a")
				wantIDs(t, s, "", "")
			}
			want(t, "Post", s.Post("A", "xy"), api.ErrArg)
			want(t, "Post", s.Post("a", strings.Repeat("x", 2001)), api.ErrLarge)
			d.Restart(keep)
			s = opened(t, d)
			if armed == 1 && keep == 8 {
				wantKept(t, s, api.Kept{ID: "a", Raw: "xy"})
				want(t, "Post", s.Post("a", "z"), api.ErrTwice)
			} else {
				wantNoPost(t, s, "a")
				want(t, "Post", s.Post("a", "z"), api.OK)
			}
		}
	}
}

// P14.3

func TestFollow(t *testing.T) {
	d := dev.New()
	s := opened(t, d)
	l := []api.Policy{full(1), full(2), lets(3, "a", "b"), lets(4, "b"), least(5), least(6)}
	var records []string
	for i, p := range l {
		want(t, "Follow", s.Follow(p), api.OK)
		wantChain(t, s, l[:i+1]...)
		records = append(records, "y"+textOf(t, p))
		wantRecords(t, d, records...)
		// It is synced.
		d.Restart(0)
		s = opened(t, d)
		wantChain(t, s, l[:i+1]...)
	}
	want(t, "Follow", s.Follow(least(6)), api.ErrGap)
}

// TestFollowWrong: chain.Add's errors, and nothing is changed.
func TestFollowWrong(t *testing.T) {
	script, deep := lets(2, "script"), least(2)
	deep.Depth = 65
	front := []string{"pa\nx", "y" + textOf(t, lets(1, "b")), "ca\nx"}
	d := devOf(t, front...)
	s := opened(t, d)
	for _, c := range []struct {
		p api.Policy
		e api.Errno
	}{
		{api.Policy{}, api.ErrForm}, {script, api.ErrForm}, {deep, api.ErrForm}, {lets(2, "b", "a"), api.ErrForm}, {least(0), api.ErrForm}, {least(-1), api.ErrForm}, {least(math.MaxInt), api.ErrForm},
		{least(1), api.ErrGap}, {least(3), api.ErrGap}, {lets(1, "b"), api.ErrGap}, {full(1), api.ErrGap}, {full(3), api.ErrGap}, {least(1000000), api.ErrGap},
		{full(2), api.ErrLoose}, {lets(2, "b", "i"), api.ErrLoose}, {lets(2, "i"), api.ErrLoose},
	} {
		want(t, "Follow", s.Follow(c.p), c.e)
		_, e := chain.Add(s.Chain(), c.p)
		want(t, "chain.Add", e, c.e)
		wantChain(t, s, lets(1, "b"))
		wantIDs(t, s, "a", "")
		wantServed(t, s, "a", "x")
	}
	wantRecords(t, d, front...)
	s = opened(t, dev.New())
	want(t, "Follow", s.Follow(least(2)), api.ErrGap)
	want(t, "Follow", s.Follow(api.Policy{}), api.ErrForm)
	wantChain(t, s)
	want(t, "Follow", s.Follow(full(1)), api.OK)
}

// TestFollowStale: behind a policy all posts are stale, and what was their form
// is kept till it is made anew.
func TestFollowStale(t *testing.T) {
	s := opened(t, devOf(t, "pb\n<b>x</b>", "pa\n<i>y</i>"))
	wantIDs(t, s, "a b", "a b")
	want(t, "Follow", s.Follow(full(1)), api.OK)
	wantIDs(t, s, "a b", "a b")
	want(t, "Make", s.Make("b"), api.OK)
	wantIDs(t, s, "a b", "a")
	want(t, "Follow", s.Follow(lets(2, "i")), api.OK)
	wantIDs(t, s, "a b", "a b")
	wantKept(t, s, api.Kept{ID: "b", Raw: "<b>x</b>", Epoch: 1, Clean: "<b>x</b>"})
	want(t, "Make", s.Make("b"), api.OK)
	want(t, "Make", s.Make("a"), api.OK)
	wantIDs(t, s, "a b", "")
	wantServed(t, s, "a", "<i>y</i>")
	wantServed(t, s, "b", "x")
	// A policy that lets just the same is another one.
	want(t, "Follow", s.Follow(lets(3, "i")), api.OK)
	wantIDs(t, s, "a b", "a b")
	wantNotServed(t, s, "b", api.ErrWait)
}

func TestFollowNoRoom(t *testing.T) {
	d := dev.New()
	s := opened(t, d)
	want(t, "Follow", s.Follow(full(1)), api.OK)
	want(t, "Post", s.Post("a", "x"), api.OK)
	want(t, "Make", s.Make("a"), api.OK)
	size := 4 + len(textOf(t, least(2)))
	fill(t, d, s, size)
	stale, all := s.Stale(), d.Bytes()
	want(t, "Follow", s.Follow(lets(2, "b")), api.ErrFull)
	want(t, "Follow", s.Follow(full(3)), api.ErrGap)
	wantChain(t, s, full(1))
	wantServed(t, s, "a", "x")
	if !slices.Equal(s.Stale(), stale) || string(d.Bytes()) != string(all) {
		t.Errorf("what is full was changed")
	}
	want(t, "Follow", s.Follow(least(2)), api.OK)
	wantChain(t, s, full(1), least(2))
	if !slices.Equal(s.Stale(), s.IDs()) || len(d.Bytes()) != api.MostDisk {
		t.Errorf("Stale are %q; %d bytes", s.Stale(), len(d.Bytes()))
	}
	want(t, "Follow", s.Follow(least(3)), api.ErrFull)
}

func TestFollowDead(t *testing.T) {
	size := 4 + len(textOf(t, least(2)))
	for armed := range 2 {
		for _, keep := range []int{0, size - 1, size} {
			d := devOf(t, "pa\nx", "y"+textOf(t, full(1)), "ca\nx")
			s := opened(t, d)
			d.Arm(armed)
			for range 3 {
				want(t, "Follow", s.Follow(least(2)), api.ErrDead)
				wantChain(t, s, full(1))
				wantServed(t, s, "a", "x")
				wantIDs(t, s, "a", "")
			}
			want(t, "Follow", s.Follow(full(3)), api.ErrGap)
			d.Restart(keep)
			s = opened(t, d)
			if armed == 1 && keep == size {
				wantChain(t, s, full(1), least(2))
				wantNotServed(t, s, "a", api.ErrWait)
				want(t, "Follow", s.Follow(least(2)), api.ErrGap)
			} else {
				wantChain(t, s, full(1))
				wantServed(t, s, "a", "x")
				want(t, "Follow", s.Follow(least(2)), api.OK)
			}
		}
	}
}

// TestFollowOwn: what is handed in is not kept, whatever becomes of it.
func TestFollowOwn(t *testing.T) {
	d := dev.New()
	s := opened(t, d)
	p := full(1)
	want(t, "Follow", s.Follow(p), api.OK)
	for _, list := range [][]string{p.Elems, p.Attrs, p.Schemes, p.Classes, p.Props} {
		list[0] = "script"
	}
	wantChain(t, s, full(1))
	want(t, "Follow", s.Follow(full(2)), api.OK)
	wantChain(t, opened(t, d), full(1), full(2))
}

// P14.4

func TestMake(t *testing.T) {
	raw := `<a href="https://x" onclick=y class="tag q">z</a><b>w</b><p>v<script>u</script>`
	d := devOf(t, "pa\n"+raw, "pb\n<i>y")
	s := opened(t, d)
	records := recordsOf(t, d)
	for _, p := range []api.Policy{full(1), lets(2, "a", "b"), lets(3, "a"), least(4)} {
		want(t, "Follow", s.Follow(p), api.OK)
		want(t, "Make", s.Make("a"), api.OK)
		form, e := san.Clean(p, []byte(raw))
		want(t, "san.Clean", e, api.OK)
		wantServed(t, s, "a", form)
		wantKept(t, s, api.Kept{ID: "a", Raw: raw, Epoch: p.Epoch, Clean: form})
		wantKept(t, s, api.Kept{ID: "b", Raw: "<i>y"})
		wantIDs(t, s, "a b", "b")
		records = append(records, "y"+textOf(t, p), "ca\n"+form)
		wantRecords(t, d, records...)
		// It is synced.
		d.Restart(0)
		s = opened(t, d)
		wantServed(t, s, "a", form)
	}
	// What was passed over is made by the last policy.
	want(t, "Make", s.Make("b"), api.OK)
	wantKept(t, s, api.Kept{ID: "b", Raw: "<i>y", Epoch: 4, Clean: "y"})
	wantRecords(t, d, append(records, "cb\ny")...)
}

func TestMakeNone(t *testing.T) {
	for _, front := range [][]string{nil, {"pa\nx"}, {"pa\nx", "y" + textOf(t, full(1))}} {
		d := devOf(t, front...)
		s := opened(t, d)
		for _, id := range []string{"", "b", "A", "aa", "a\n", " a", strings.Repeat("a", 17)} {
			want(t, "Make", s.Make(id), api.ErrNone)
		}
		wantRecords(t, d, front...)
	}
}

func TestMakeWait(t *testing.T) {
	d := devOf(t, "pa\nx", "pb\n")
	s := opened(t, d)
	for _, id := range []string{"a", "b", "a"} {
		want(t, "Make", s.Make(id), api.ErrWait)
	}
	wantIDs(t, s, "a b", "a b")
	wantKept(t, s, api.Kept{ID: "a", Raw: "x"})
	wantRecords(t, d, "pa\nx", "pb\n")
	// Also without power: it is named first.
	d.Arm(0)
	want(t, "Make", s.Make("a"), api.ErrWait)
	if d.Off() {
		t.Error("Make ahead of all policies is a write")
	}
}

// TestMakeAgain: where the form is of the epoch, nothing is done.
func TestMakeAgain(t *testing.T) {
	d := devOf(t, "pa\nx", "pb\n<b>", "y"+textOf(t, least(1)))
	s := opened(t, d)
	want(t, "Make", s.Make("a"), api.OK)
	want(t, "Make", s.Make("b"), api.OK)
	wantServed(t, s, "b", "")
	all := d.Bytes()
	d.Arm(0)
	for range 3 {
		want(t, "Make", s.Make("a"), api.OK)
		want(t, "Make", s.Make("b"), api.OK)
	}
	if string(d.Bytes()) != string(all) || d.Off() {
		t.Errorf("%q, Off is %v", d.Bytes(), d.Off())
	}
	// Also a form that an earlier store made, and while the power is gone.
	s = opened(t, d)
	want(t, "Make", s.Make("b"), api.OK)
	want(t, "Post", s.Post("c", "x"), api.ErrDead)
	want(t, "Make", s.Make("a"), api.OK)
}

// TestMakeLarge: of a page that the policy finds too large the form is empty.
func TestMakeLarge(t *testing.T) {
	p, q := full(1), full(2)
	p.Bytes, q.Bytes = 8, 7
	d := devOf(t, "pa\n<b>x</b>", "pb\n123456789")
	s := opened(t, d)
	want(t, "Follow", s.Follow(p), api.OK)
	want(t, "Make", s.Make("a"), api.OK)
	want(t, "Make", s.Make("b"), api.OK)
	wantServed(t, s, "a", "<b>x</b>")
	wantServed(t, s, "b", "")
	wantKept(t, s, api.Kept{ID: "b", Raw: "123456789", Epoch: 1})
	want(t, "Follow", s.Follow(q), api.OK)
	want(t, "Make", s.Make("a"), api.OK)
	wantServed(t, s, "a", "")
	wantIDs(t, s, "a b", "b")
	wantRecords(t, d, "pa\n<b>x</b>", "pb\n123456789", "y"+textOf(t, p), "ca\n<b>x</b>", "cb\n", "y"+textOf(t, q), "ca\n")
	wantServed(t, opened(t, d), "a", "")
}

// TestMakeLong: forms that are much longer than what they were made of.
func TestMakeLong(t *testing.T) {
	for _, raw := range []string{strings.Repeat("&", 2000), strings.Repeat("<", 2000), strings.Repeat("\xff", 2000), strings.Repeat("<a href>", 250), strings.Repeat("<a href=''></a>", 90), "<b class='" + strings.Repeat(`"`, 1990), "<a href='" + strings.Repeat(`"`, 1985) + "'>x", strings.Repeat("<b a>", 400)} {
		p := full(1)
		p.Nodes = 2000
		d := devOf(t, "pa\n"+raw, "y"+textOf(t, p))
		s := opened(t, d)
		want(t, "Make", s.Make("a"), api.OK)
		form, e := san.Clean(p, []byte(raw))
		want(t, "san.Clean", e, api.OK)
		wantServed(t, s, "a", form)
		wantServed(t, opened(t, d), "a", form)
	}
}

func TestMakeNoRoom(t *testing.T) {
	d := dev.New()
	s := opened(t, d)
	want(t, "Follow", s.Follow(full(1)), api.OK)
	want(t, "Post", s.Post("a", "<b>12345</b>"), api.OK)
	want(t, "Make", s.Make("a"), api.OK)
	want(t, "Post", s.Post("b", "<b>12</b>"), api.OK)
	want(t, "Follow", s.Follow(least(2)), api.OK)
	fill(t, d, s, 10)
	all, stale := d.Bytes(), s.Stale()
	want(t, "Make", s.Make("a"), api.ErrFull)
	wantKept(t, s, api.Kept{ID: "a", Raw: "<b>12345</b>", Epoch: 1, Clean: "<b>12345</b>"})
	wantNotServed(t, s, "a", api.ErrWait)
	if !slices.Equal(s.Stale(), stale) || string(d.Bytes()) != string(all) {
		t.Errorf("what is full was changed")
	}
	want(t, "Make", s.Make("b"), api.OK)
	wantServed(t, s, "b", "12")
	want(t, "Make", s.Make("a"), api.ErrFull)
	want(t, "Make", s.Make("b"), api.OK)
}

func TestMakeDead(t *testing.T) {
	for armed := range 2 {
		for _, keep := range []int{0, 6, 7} {
			d := devOf(t, "pa\n<b>x</b>", "y"+textOf(t, full(1)), "ca\n<b>x</b>", "y"+textOf(t, least(2)))
			s := opened(t, d)
			d.Arm(armed)
			for range 3 {
				want(t, "Make", s.Make("a"), api.ErrDead)
				wantKept(t, s, api.Kept{ID: "a", Raw: "<b>x</b>", Epoch: 1, Clean: "<b>x</b>"})
				wantNotServed(t, s, "a", api.ErrWait)
				wantIDs(t, s, "a", "a")
			}
			want(t, "Make", s.Make("b"), api.ErrNone)
			d.Restart(keep)
			s = opened(t, d)
			if armed == 1 && keep == 7 {
				wantServed(t, s, "a", "x")
			} else {
				wantNotServed(t, s, "a", api.ErrWait)
			}
			want(t, "Make", s.Make("a"), api.OK)
			wantServed(t, s, "a", "x")
			wantServed(t, opened(t, d), "a", "x")
		}
	}
}

// P14.5

// TestTold: what each call tells, step by step.
func TestTold(t *testing.T) {
	s := opened(t, dev.New())
	want(t, "Post", s.Post("b", "<b>x"), api.OK)
	want(t, "Post", s.Post("a1", "y"), api.OK)
	want(t, "Post", s.Post("a", "z"), api.OK)
	wantIDs(t, s, "a a1 b", "a a1 b")
	wantNotServed(t, s, "b", api.ErrWait)
	wantChain(t, s)
	want(t, "Follow", s.Follow(full(1)), api.OK)
	wantIDs(t, s, "a a1 b", "a a1 b")
	wantNotServed(t, s, "b", api.ErrWait)
	wantKept(t, s, api.Kept{ID: "b", Raw: "<b>x"})
	want(t, "Make", s.Make("a1"), api.OK)
	wantIDs(t, s, "a a1 b", "a b")
	want(t, "Make", s.Make("b"), api.OK)
	wantIDs(t, s, "a a1 b", "a")
	wantServed(t, s, "b", "<b>x</b>")
	wantKept(t, s, api.Kept{ID: "b", Raw: "<b>x", Epoch: 1, Clean: "<b>x</b>"})
	want(t, "Post", s.Post("0", "w"), api.OK)
	wantIDs(t, s, "0 a a1 b", "0 a")
	want(t, "Make", s.Make("a"), api.OK)
	want(t, "Make", s.Make("0"), api.OK)
	wantIDs(t, s, "0 a a1 b", "")
	want(t, "Follow", s.Follow(least(2)), api.OK)
	wantIDs(t, s, "0 a a1 b", "0 a a1 b")
	wantChain(t, s, full(1), least(2))
	for _, id := range []string{"", "c", "A", "a\n", "a11", "B"} {
		wantNoPost(t, s, id)
	}
}

// TestTellsItsOwn: what is told is the caller's, and what is told again is not
// what became of it.
func TestTellsItsOwn(t *testing.T) {
	s := opened(t, devOf(t, "pa\nx", "pb\ny", "y"+textOf(t, full(1)), "y"+textOf(t, full(2))))
	for _, ids := range [][]string{s.IDs(), s.Stale()} {
		ids[0] = "q"
		ids = append(ids[:1], "r")
		if !slices.Equal(ids, []string{"q", "r"}) {
			t.Errorf("a list is %q", ids)
		}
	}
	l := s.Chain()
	for i := range l {
		l[i].Epoch = 7
		for _, list := range [][]string{l[i].Elems, l[i].Attrs, l[i].Schemes, l[i].Classes, l[i].Props} {
			list[0] = "script"
		}
	}
	l = append(l[:1], least(9))
	wantIDs(t, s, "a b", "a b")
	wantChain(t, s, full(1), full(2))
	want(t, "Follow", s.Follow(full(3)), api.OK)
	wantChain(t, s, full(1), full(2), full(3))
}

// TestSharesNothing: texts that are told have no byte in common with those that
// were handed in, nor with those that were told ahead.
func TestSharesNothing(t *testing.T) {
	s := opened(t, dev.New())
	id, raw := strings.Clone("abc"), strings.Clone("xyz")
	want(t, "Post", s.Post(id, raw), api.OK)
	want(t, "Follow", s.Follow(full(1)), api.OK)
	want(t, "Make", s.Make(id), api.OK)
	texts := []string{id, raw}
	for range 2 {
		k, _ := s.Get(id)
		form, _ := s.Serve(id)
		texts = append(texts, k.ID, k.Raw, k.Clean, form, s.IDs()[0], s.Chain()[0].Attrs[0])
	}
	met := map[*byte]bool{}
	for i, text := range texts {
		at := unsafe.StringData(text)
		if met[at] {
			t.Errorf("the text %d, %q, is another one's", i, text)
		}
		met[at] = true
	}
}

// TestTwoStores: what befalls one befalls no other.
func TestTwoStores(t *testing.T) {
	one, other := opened(t, dev.New()), opened(t, dev.New())
	want(t, "Post", one.Post("a", "x"), api.OK)
	want(t, "Follow", one.Follow(least(1)), api.OK)
	want(t, "Post", other.Post("a", "y"), api.OK)
	want(t, "Make", one.Make("a"), api.OK)
	want(t, "Make", other.Make("a"), api.ErrWait)
	want(t, "Follow", other.Follow(full(1)), api.OK)
	wantServed(t, one, "a", "x")
	wantNotServed(t, other, "a", api.ErrWait)
	wantChain(t, one, least(1))
	wantChain(t, other, full(1))
}

// P14.6

// TestLosses: at whichever write the power goes, and whatever is kept, all that
// was answered for is there, and at most the one more that was not.
func TestLosses(t *testing.T) {
	calls := []func(s *Store) api.Errno{
		func(s *Store) api.Errno { return s.Post("a", "<b>x</b>") },
		func(s *Store) api.Errno { return s.Follow(full(1)) },
		func(s *Store) api.Errno { return s.Make("a") },
		func(s *Store) api.Errno { return s.Post("b", "") },
		func(s *Store) api.Errno { return s.Make("b") },
		func(s *Store) api.Errno { return s.Follow(least(2)) },
		func(s *Store) api.Errno { return s.Make("a") },
		func(s *Store) api.Errno { return s.Post("c", "<i>\xff") },
		func(s *Store) api.Errno { return s.Make("c") },
	}
	// The store that is told of so many calls, without a loss.
	behind := func(many int) *Store {
		s := opened(t, dev.New())
		for _, call := range calls[:many] {
			want(t, "a call", call(s), api.OK)
		}
		return s
	}
	for armed := range 2*len(calls) + 1 {
		for _, keep := range []int{math.MinInt, -1, 0, 1, 2, 3, 4, 5, 6, 7, 8, 9, 10, 11, 12, 20, 30, 31, 32, 33, 34, 35, 36, 50, 100, 200, math.MaxInt} {
			d := dev.New()
			s := opened(t, d)
			d.Arm(armed)
			fine := 0
			for fine < len(calls) && calls[fine](s) == api.OK {
				fine++
			}
			if fine != armed/2 {
				t.Fatalf("armed by %d: %d calls", armed, fine)
			}
			whole := d.Bytes()
			d.Restart(keep)
			if armed%2 == 1 && fine < len(calls) && len(d.Bytes()) == len(whole) {
				fine++
			}
			for range 2 {
				wantAlike(t, opened(t, d), behind(fine))
				d.Restart(0)
			}
			// It goes on from there.
			s = opened(t, d)
			for i, call := range calls[fine:] {
				want(t, "call "+strconv.Itoa(fine+i), call(s), api.OK)
			}
			wantAlike(t, s, behind(len(calls)))
			wantAlike(t, opened(t, d), s)
		}
	}
}

// wantAlike asks that two stores tell the same.
func wantAlike(t *testing.T, s, of *Store) {
	t.Helper()
	wantIDs(t, s, strings.Join(of.IDs(), " "), strings.Join(of.Stale(), " "))
	wantChain(t, s, of.Chain()...)
	for _, id := range of.IDs() {
		k, _ := of.Get(id)
		wantKept(t, s, k)
		if form, e := of.Serve(id); e == api.OK {
			wantServed(t, s, id, form)
		} else {
			wantNotServed(t, s, id, e)
		}
	}
}
