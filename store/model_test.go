package store

import (
	"bytes"
	"fmt"
	"slices"
	"strings"
	"testing"

	"verso/api"
	"verso/chain"
	"verso/dev"
	"verso/flog"
	"verso/policy"
	"verso/san"
)

// What follows is the chapter's sections Words and Promises, in other words than
// the package's: nothing is kept but the list of records, and all that is asked
// is told by going through it anew. What lasts, what is stricter and what is
// clean is asked of the packages below, whose own tests hold them.

// book are records.
type book []string

// postsBy are the posts of a book, rising.
func (b book) postsBy() []api.Post {
	var l []api.Post
	for _, r := range b {
		if r[0] == 'p' {
			at := strings.Index(r, "\n")
			l = append(l, api.Post{ID: r[1:at], Raw: r[at+1:]})
		}
	}
	slices.SortFunc(l, func(p, q api.Post) int { return strings.Compare(p.ID, q.ID) })
	return l
}

// policiesBy are the policies of a book.
func (b book) policiesBy() []api.Policy {
	var l []api.Policy
	for _, r := range b {
		if r[0] == 'y' {
			p, _ := policy.Read(r[1:])
			l = append(l, p)
		}
	}
	return l
}

// getBy is a post, as it is kept.
func (b book) getBy(id string) (api.Kept, bool) {
	l := b.postsBy()
	i := slices.IndexFunc(l, func(p api.Post) bool { return p.ID == id })
	if i < 0 {
		return api.Kept{}, false
	}
	k := api.Kept{ID: id, Raw: l[i].Raw}
	for i, r := range b {
		if form, is := strings.CutPrefix(r, "c"+id+"\n"); is {
			k.Epoch, k.Clean = len(b[:i].policiesBy()), form
		}
	}
	return k, true
}

func (b book) serveBy(id string) (string, api.Errno) {
	k, is := b.getBy(id)
	if !is {
		return "", api.ErrNone
	}
	epoch := len(b.policiesBy())
	if epoch == 0 || k.Epoch != epoch {
		return "", api.ErrWait
	}
	return k.Clean, api.OK
}

// isIDBy tells whether a text is an ID.
func isIDBy(s string) bool {
	return len(s) >= 1 && len(s) <= 16 && strings.Trim(s, "abcdefghijklmnopqrstuvwxyz0123456789") == ""
}

// postBy is the record of a post that is taken in, or why it is not.
func (b book) postBy(id, raw string) (string, api.Errno) {
	l := b.postsBy()
	if !isIDBy(id) {
		return "", api.ErrArg
	}
	if slices.ContainsFunc(l, func(p api.Post) bool { return p.ID == id }) {
		return "", api.ErrTwice
	}
	if len(raw) > 2000 {
		return "", api.ErrLarge
	}
	if len(l) == 64 {
		return "", api.ErrFull
	}
	return "p" + id + "\n" + raw, api.OK
}

// followBy is the record of a policy that is followed, or why it is not.
func (b book) followBy(p api.Policy) (string, api.Errno) {
	if _, e := chain.Add(b.policiesBy(), p); e != api.OK {
		return "", e
	}
	text, _ := policy.Text(p)
	return "y" + text, api.OK
}

// makeBy is the record of a clean form, or why none is made; an empty one and OK,
// if nothing is to be done.
func (b book) makeBy(id string) (string, api.Errno) {
	k, is := b.getBy(id)
	l := b.policiesBy()
	if !is {
		return "", api.ErrNone
	}
	if len(l) == 0 {
		return "", api.ErrWait
	}
	if k.Epoch == len(l) {
		return "", api.OK
	}
	return "c" + id + "\n" + formBy(l[len(l)-1], k.Raw), api.OK
}

// formBy is a post's clean form by a policy.
func formBy(p api.Policy, raw string) string {
	form, e := san.Clean(p, []byte(raw))
	if e == api.ErrLarge {
		return ""
	}
	return form
}

// could tells whether a record could be appended to a book, but that a policy
// may be any that comes next, and a clean form any text.
func (b book) could(r string) bool {
	if r == "" {
		return false
	}
	head, tail, both := strings.Cut(r[1:], "\n")
	switch r[0] {
	case 'p':
		_, e := b.postBy(head, tail)
		return both && e == api.OK
	case 'y':
		p, e := policy.Read(r[1:])
		return e == api.OK && p.Epoch == 1+len(b.policiesBy())
	case 'c':
		record, e := b.makeBy(head)
		return both && e == api.OK && record != ""
	}
	return false
}

// right tells whether each of a book's records could be appended to those ahead.
func (b book) right() bool {
	for i, r := range b {
		if !b[:i].could(r) {
			return false
		}
	}
	return true
}

// asked are the IDs that each store is asked about.
func asked() []string { return []string{"a", "b", "c", "A", ""} }

// checkTold holds all that a store tells against the chapter's words.
func checkTold(t *testing.T, what any, s *Store, b book) {
	t.Helper()
	var ids, stale []string
	for _, p := range b.postsBy() {
		ids = append(ids, p.ID)
		if _, e := b.serveBy(p.ID); e == api.ErrWait {
			stale = append(stale, p.ID)
		}
	}
	if !slices.Equal(s.IDs(), ids) || !slices.Equal(s.Stale(), stale) {
		t.Fatalf("%v: IDs %q, not %q; Stale %q, not %q", what, s.IDs(), ids, s.Stale(), stale)
	}
	if got, l := s.Chain(), b.policiesBy(); !slices.EqualFunc(got, l, same) {
		t.Fatalf("%v: the chain is %+v, not %+v", what, got, l)
	}
	for _, id := range asked() {
		k, is := s.Get(id)
		if wantK, wantIs := b.getBy(id); k != wantK || is != wantIs {
			t.Fatalf("%v: Get(%s) is %+v, %v, not %+v", what, id, k, is, wantK)
		}
		form, e := s.Serve(id)
		if wantForm, wantE := b.serveBy(id); form != wantForm || e != wantE {
			t.Fatalf("%v: Serve(%s) is %q, %v, not %q, %v", what, id, form, e, wantForm, wantE)
		}
	}
}

// checkRecords holds Open of records against the chapter's words.
func checkRecords(t *testing.T, records []string) {
	t.Helper()
	d := dev.New()
	l, _, _ := flog.Open(d)
	for _, r := range records {
		if l.Append(r) != api.OK {
			return
		}
	}
	b := book(records)
	s, e := Open(d)
	switch {
	case !b.right():
		if s != nil || e != api.ErrForm {
			t.Fatalf("%.60q: a store %v, %v", records, s != nil, e)
		}
	case s == nil || e != api.OK:
		t.Fatalf("%.60q: no store, %v", records, e)
	default:
		checkTold(t, records, s, b)
	}
}

// checkAllRecords holds Open against the chapter's words at all lists of at most
// so many of some records. (What stands behind a wrong one does not count.)
func checkAllRecords(t *testing.T, of []string, many int) {
	t.Helper()
	var all func(records []string, many int)
	all = func(records []string, many int) {
		checkRecords(t, records)
		if many == 0 || !book(records[:max(len(records)-1, 0)]).right() {
			return
		}
		for _, r := range of {
			all(append(records[:len(records):len(records)], r), many-1)
		}
	}
	all(nil, many)
}

// model does to a device of its own what the words say, and keeps apart what
// the theorem speaks of.
type model struct {
	d    *dev.Dev
	l    *flog.Log
	b    book
	fine book   // of calls that answered OK
	more string // of the one that answered ErrDead since the last loss, if one did
	wild bool   // records were laid on the device past the store
}

func (m *model) open() api.Errno {
	l, records, e := flog.Open(m.d)
	if e == api.OK && !book(records).right() {
		e = api.ErrForm
	}
	if e != api.OK {
		m.l = nil
		return e
	}
	m.l, m.b = l, records
	return api.OK
}

// add is what becomes of a record.
func (m *model) add(r string, e api.Errno) api.Errno {
	if e != api.OK || r == "" {
		return e
	}
	e = m.l.Append(r)
	switch {
	case e == api.OK:
		m.b = append(slices.Clone(m.b), r)
		m.fine = append(m.fine, r)
	case e == api.ErrDead && m.more == "":
		m.more = r
	}
	return e
}

// theorem asks, of what was opened and what is served, the stage's theorem.
// What was opened once is there from then on.
func (m *model) theorem(t *testing.T, calls []call, s *Store) {
	t.Helper()
	if m.wild {
		return
	}
	if !slices.Equal(m.b, m.fine) && (m.more == "" || !slices.Equal(m.b, append(slices.Clone(m.fine), m.more))) {
		t.Fatalf("%v: %.60q, but answered for were %.60q, and perhaps %.60q", calls, m.b, m.fine, m.more)
	}
	l := m.b.policiesBy()
	for _, p := range m.b.postsBy() {
		form, e := s.Serve(p.ID)
		if e == api.OK && form != formBy(l[len(l)-1], p.Raw) {
			t.Fatalf("%v: %.60q is served of %.60q", calls, form, p.Raw)
		}
	}
}

// call is one of a store's or of its device's, with what it is handed.
type call struct {
	do byte
	n  int
	s  string
	p  api.Policy
}

func (c call) String() string {
	what := map[byte]string{'o': "Open", 'p': "Post", 'f': "Follow", 'm': "Make", 'a': "Arm", 'r': "Restart", 'w': "record"}[c.do]
	return fmt.Sprintf("%s(%d, %.9q, %d %v)", what, c.n, c.s, c.p.Epoch, c.p.Elems)
}

// checkCalls holds the stores of a new device against the chapter's words, at
// calls one behind the other. A Post's text is its ID, a blank and its raw bytes.
func checkCalls(t *testing.T, calls []call) {
	t.Helper()
	d, m := dev.New(), &model{d: dev.New()}
	var s *Store
	for i, c := range calls {
		if m.l == nil && strings.IndexByte("pfm", c.do) >= 0 {
			// Behind a loss of power a store must be opened anew.
			continue
		}
		got, want := do(c, d, m, &s)
		if all := d.Bytes(); got != want || d.Off() != m.d.Off() || !bytes.Equal(all, m.d.Bytes()) {
			t.Fatalf("%v: %v, not %v; Off %v; %d bytes: %.60q, not %.60q", calls[:i+1], got, want, d.Off(), len(all), all, m.d.Bytes())
		}
		if (s != nil) != (m.l != nil) {
			t.Fatalf("%v: a store %v", calls[:i+1], s != nil)
		}
		if s != nil {
			checkTold(t, calls[:i+1], s, m.b)
			m.theorem(t, calls[:i+1], s)
		}
		if c.do == 'o' && got == api.OK {
			m.fine, m.more = slices.Clone(m.b), ""
		}
	}
}

// do does a call at a store, or at its device, and at the model, and tells what
// both answered.
func do(c call, d *dev.Dev, m *model, s **Store) (api.Errno, api.Errno) {
	id, raw, _ := strings.Cut(c.s, " ")
	switch c.do {
	case 'p':
		return (*s).Post(id, raw), m.add(m.b.postBy(id, raw))
	case 'f':
		return (*s).Follow(c.p), m.add(m.b.followBy(c.p))
	case 'm':
		return (*s).Make(c.s), m.add(m.b.makeBy(c.s))
	case 'a':
		d.Arm(c.n)
		m.d.Arm(c.n)
	case 'r':
		d.Restart(c.n)
		m.d.Restart(c.n)
		*s, m.l = nil, nil
	case 'w':
		// Of one device the store that was opened last is used alone.
		*s, m.l, m.wild = nil, nil, true
		return appendTo(d, c.s), appendTo(m.d, c.s)
	case 'o':
		got, e := Open(d)
		*s = got
		return e, m.open()
	}
	return api.OK, api.OK
}

// appendTo lays a record on a device, past the store.
func appendTo(d *dev.Dev, record string) api.Errno {
	l, _, e := flog.Open(d)
	if e != api.OK {
		return e
	}
	return l.Append(record)
}

// checkAllCalls holds stores against the chapter's words at all lists of so many
// of some calls, behind others. (A list holds its beginnings, too.)
func checkAllCalls(t *testing.T, first, of []call, many int) {
	t.Helper()
	var all func(calls []call, many int)
	all = func(calls []call, many int) {
		if many == 0 {
			checkCalls(t, append(calls[:len(calls):len(calls)], call{do: 'o'}, call{do: 'r', n: 0}, call{do: 'o'}, call{do: 'o'}))
			return
		}
		for _, c := range of {
			all(append(calls[:len(calls):len(calls)], c), many-1)
		}
	}
	all(slices.Clone(first), many)
}

// small is a policy whose text is short.
func small(epoch int, elems ...string) api.Policy {
	return api.Policy{Epoch: epoch, Elems: elems, Depth: 1, Nodes: 2, Bytes: 9}
}

// recordOf is the record of a policy.
func recordOf(p api.Policy) string {
	text, _ := policy.Text(p)
	return "y" + text
}

// TestAllShortRecords: right ones and wrong ones.
func TestAllShortRecords(t *testing.T) {
	checkAllRecords(t, []string{
		"pa\n<b>x", "pb\n", recordOf(small(1)), recordOf(small(2)), recordOf(small(2, "b")), recordOf(small(3)), "ca\n", "ca\nz\n", "cb\nw",
		"", "p", "y", "c", "x", "pa", "ca", "pA\nx", "p\n", "c\n", recordOf(small(1)) + "\n", "cA\nx", "Pa\nx", "pa\nother", "pb\n" + strings.Repeat("x", 2001),
	}, 5)
}

// TestAllLongerRecords: fewer of them, and longer lists.
func TestAllLongerRecords(t *testing.T) {
	checkAllRecords(t, []string{"pa\nx", "pb\ny", recordOf(small(1)), recordOf(small(2, "b")), recordOf(small(3)), "ca\nx", "cb\ny"}, 9)
}

// TestAllBytes: every byte as each one of the first three of a record.
func TestAllBytes(t *testing.T) {
	front := []string{"pa\nx", recordOf(small(1)), "pb\nx"}
	for _, r := range []string{"pc\nx", "ca\nx", recordOf(small(2))} {
		for at := range 3 {
			for c := range 256 {
				wrong := []byte(r)
				wrong[at] = byte(c)
				checkRecords(t, append(slices.Clone(front), string(wrong)))
				checkRecords(t, []string{string(wrong)})
			}
		}
	}
}

func TestAllShortLists(t *testing.T) {
	checkAllCalls(t, []call{{do: 'o'}}, []call{
		{do: 'p', s: "a <b>x"}, {do: 'p', s: "b y"}, {do: 'p', s: "A x"},
		{do: 'f', p: small(1, "b")}, {do: 'f', p: small(2)}, {do: 'f', p: small(2, "i")},
		{do: 'm', s: "a"}, {do: 'm', s: "b"},
		{do: 'o'}, {do: 'a', n: 0}, {do: 'a', n: 1}, {do: 'r', n: 0}, {do: 'r', n: 99},
	}, 4)
}

// TestAllLongerLists: fewer calls, and more of them.
func TestAllLongerLists(t *testing.T) {
	checkAllCalls(t, []call{{do: 'o'}}, []call{{do: 'p', s: "a <b>x"}, {do: 'f', p: small(1, "b")}, {do: 'f', p: small(2)}, {do: 'm', s: "a"}, {do: 'o'}}, 6)
	first := []call{{do: 'o'}, {do: 'p', s: "a <b>x"}, {do: 'f', p: small(1, "b")}}
	checkAllCalls(t, first, []call{{do: 'f', p: small(2)}, {do: 'm', s: "a"}, {do: 'p', s: "b y"}, {do: 'a', n: 1}, {do: 'r', n: 7}, {do: 'r', n: 99}, {do: 'o'}}, 5)
}

// TestAllLarge: posts that a policy finds too large, or as too many nodes.
func TestAllLarge(t *testing.T) {
	first := []call{{do: 'o'}, {do: 'p', s: "a <b>1</b>"}, {do: 'p', s: "b <i>123</i>"}, {do: 'p', s: "c <b>1<b>2"}}
	deep := small(2, "b")
	deep.Nodes = 1
	less := small(2, "b")
	less.Bytes = 7
	checkAllCalls(t, first, []call{{do: 'f', p: small(1, "b")}, {do: 'f', p: deep}, {do: 'f', p: less}, {do: 'm', s: "a"}, {do: 'm', s: "b"}, {do: 'm', s: "c"}}, 5)
}

// TestAllWild: records that no store laid there.
func TestAllWild(t *testing.T) {
	checkAllCalls(t, nil, []call{
		{do: 'w', s: "pa\nx"}, {do: 'w', s: recordOf(small(1))}, {do: 'w', s: recordOf(small(2, "b"))}, {do: 'w', s: "ca\nother"}, {do: 'w', s: "z"},
		{do: 'o'}, {do: 'p', s: "a x"}, {do: 'f', p: small(1)}, {do: 'f', p: small(3)}, {do: 'm', s: "a"}, {do: 'r', n: 9},
	}, 4)
}

// TestAllFull: calls at a device that has room for a policy, and nothing more, or
// for a few shorter records.
func TestAllFull(t *testing.T) {
	first := []call{{do: 'o'}, {do: 'f', p: small(1, "b")}, {do: 'p', s: "a <b>x"}, {do: 'p', s: "b "}}
	for i := range 29 {
		first = append(first, call{do: 'p', s: fmt.Sprintf("n%02d %s", i, strings.Repeat("w", 2000))})
	}
	first = append(first, call{do: 'p', s: "rest " + strings.Repeat("w", 1690)})
	of := []call{{do: 'p', s: "c 12"}, {do: 'p', s: "c 123"}, {do: 'm', s: "a"}, {do: 'm', s: "b"}, {do: 'f', p: small(2)}, {do: 'o'}, {do: 'a', n: 1}, {do: 'r', n: 4}}
	checkAllCalls(t, first, of, 3)
}

func FuzzTexts(f *testing.F) {
	for _, s := range []string{
		"", "pa\nx|yepoch 1\ncaps 1 1 1\n|ca\nx", "pa\nx|pa\nx", "yepoch 1\nelem b\ncaps 1 1 1\n|yepoch 2\nelem i\ncaps 1 1 1\n", "ca\nx", "pa\n|pb\n|c", "y", "|",
		"o0p0f1m0", "o0p0f1m0f2m0r9o0", "o0a1p0r9o0p0", "o0p1p2a3f1m1m1r5o0", "f1p3m3f2m3f3o0m3", "w0w1w2o0p0",
	} {
		f.Add(s)
	}
	f.Fuzz(func(t *testing.T, s string) {
		checkRecords(t, strings.Split(s, "|"))
		checkCalls(t, callsOf(s))
	})
}

// callsOf are calls of a text, one of each pair of bytes: which one, and a number
// that says what it is handed.
func callsOf(s string) []call {
	const dos = "pfmarow"
	wild := []string{"pa\nx", recordOf(small(1)), recordOf(small(2, "b")), "ca\nx", "", "pb\n", "cb\n"}
	calls := []call{{do: 'o'}}
	for i := 0; i+1 < len(s) && len(calls) < 40; i += 2 {
		n := max(int(s[i+1])-'0', 0)
		c := call{do: dos[int(s[i])%len(dos)], n: n}
		if strings.IndexByte(dos, s[i]) >= 0 {
			c.do = s[i]
		}
		id := asked()[n%len(asked())]
		switch c.do {
		case 'p':
			c.s = id + " " + strings.Repeat("<b>x&", n%401) + s[i:]
		case 'm':
			c.s = id
		case 'f':
			c.p = small(n%6, []string{"b", "i", "p"}[min(n/3, 3):]...)
			c.p.Bytes = 2000 - n
		case 'w':
			c.s = wild[n%len(wild)]
		}
		calls = append(calls, c)
	}
	return calls
}
