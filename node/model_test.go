package node

import (
	"bytes"
	"fmt"
	"math"
	"slices"
	"strings"
	"testing"

	"verso/api"
	"verso/dev"
	"verso/msg"
	"verso/store"
)

// What follows is the chapter's section Promises, in other words than the
// package's. What a store keeps, and which messages may be, is asked of the
// packages below, whose own tests hold them.

// model does to a device of its own what the words say.
type model struct {
	me int
	d  *dev.Dev
	s  *store.Store // nil, while no node is open
}

func (m *model) openBy(me int) api.Errno {
	if !slices.Contains([]int{1, 2, 3, 4, 5}, me) {
		return api.ErrArg
	}
	s, e := store.Open(m.d)
	m.me, m.s = me, s
	return e
}

func (m *model) tickBy(nodes int) []api.Msg {
	for _, id := range m.s.Stale() {
		m.s.Make(id)
		break
	}
	var l []api.Msg
	for _, to := range []int{1, 2, 3, 4, 5} {
		if to <= nodes && to != m.me {
			l = append(l, digestOf(m.me, to, len(m.s.Chain()), m.s.IDs()...))
		}
	}
	return append(l, ackOf(m.me, 0, len(m.s.Chain())))
}

func (m *model) takeBy(one api.Msg) ([]api.Msg, api.Errno) {
	if !msg.Right(one) || one.To != m.me || one.Kind == api.MAck {
		return nil, api.ErrArg
	}
	switch one.Kind {
	case api.MPosts:
		return nil, m.keepBy(one.Posts)
	case api.MPolicy:
		return nil, m.s.Follow(one.Policy)
	}
	var l []api.Msg
	if posts := m.lackedBy(one.IDs); len(posts) > 0 {
		l = append(l, postsOf(m.me, one.From, posts...))
	}
	for _, p := range m.s.Chain() {
		if p.Epoch == one.Epoch+1 {
			l = append(l, policyOf(m.me, one.From, p))
		}
	}
	return l, api.OK
}

// lackedBy are the first posts that are not among some IDs, each an ID, a blank
// and its raw bytes.
func (m *model) lackedBy(ids []string) []string {
	var posts []string
	sum := 0
	for _, id := range m.s.IDs() {
		if slices.Contains(ids, id) {
			continue
		}
		k, _ := m.s.Get(id)
		if sum += len(k.Raw); sum > 8000 {
			break
		}
		posts = append(posts, id+" "+k.Raw)
	}
	return posts
}

func (m *model) keepBy(posts []api.Post) api.Errno {
	for _, p := range posts {
		if slices.Contains(m.s.IDs(), p.ID) {
			continue
		}
		if e := m.s.Post(p.ID, p.Raw); e != api.OK {
			return e
		}
	}
	return api.OK
}

// call is one of a node's or of its device's, with what it is handed.
type call struct {
	do byte
	n  int
	s  string
	m  api.Msg
}

func (c call) String() string {
	if c.do == 'm' {
		return fmt.Sprintf("Take(%.90s)", shown(c.m))
	}
	what := map[byte]string{'o': "Open", 'i': "Ingest", 't': "Tick", 'a': "Arm", 'r': "Restart"}[c.do]
	return fmt.Sprintf("%s(%d, %.9q)", what, c.n, c.s)
}

// answer is what a call answered: the messages shown, and the error.
type answer struct {
	told []string
	e    api.Errno
}

// pair is a node on its device, the model on its own, and what the node had.
type pair struct {
	d     *dev.Dev
	n     *Node
	m     model
	posts map[string]string // raw bytes by ID
	chain []string
}

// do does a call at the node, or at its device, and at the model, and tells what
// both answered.
func (p *pair) do(c call) (answer, answer) {
	id, raw, _ := strings.Cut(c.s, " ")
	switch c.do {
	case 'i':
		return answer{e: p.n.Ingest(id, raw)}, answer{e: p.m.s.Post(id, raw)}
	case 't':
		return answer{told: shownAll(p.n.Tick(c.n))}, answer{told: shownAll(p.m.tickBy(c.n))}
	case 'm':
		l, e := p.n.Take(c.m)
		wantL, wantE := p.m.takeBy(c.m)
		return answer{shownAll(l), e}, answer{shownAll(wantL), wantE}
	case 'a':
		p.d.Arm(c.n)
		p.m.d.Arm(c.n)
	case 'r':
		p.d.Restart(c.n)
		p.m.d.Restart(c.n)
		p.n, p.m.s = nil, nil
	case 'o':
		n, e := Open(c.n, p.d)
		if e != api.ErrArg {
			p.n = n
		}
		return answer{e: e}, answer{e: p.m.openBy(c.n)}
	}
	return answer{}, answer{}
}

// checkCalls holds the nodes of a new device against the chapter's words, at
// calls one behind the other.
func checkCalls(t *testing.T, calls []call) {
	t.Helper()
	p := &pair{d: dev.New(), m: model{d: dev.New()}}
	for i, c := range calls {
		if p.n == nil && strings.IndexByte("itm", c.do) >= 0 {
			// Behind a loss of power a node must be opened anew.
			continue
		}
		got, want := p.do(c)
		if got.e != want.e || !slices.Equal(got.told, want.told) {
			t.Fatalf("%v: %v, %.300q, not %v, %.300q", calls[:i+1], got.e, got.told, want.e, want.told)
		}
		if all := p.d.Bytes(); p.d.Off() != p.m.d.Off() || !bytes.Equal(all, p.m.d.Bytes()) {
			t.Fatalf("%v: Off %v; %d bytes: %.60q, not %.60q", calls[:i+1], p.d.Off(), len(all), all, p.m.d.Bytes())
		}
		if (p.n != nil) != (p.m.s != nil) {
			t.Fatalf("%v: a node %v", calls[:i+1], p.n != nil)
		}
		if p.n != nil {
			p.checkTold(t, calls[:i+1])
			p.checkTheorem(t, calls[:i+1])
		}
	}
}

// checkTold holds all that a node tells of itself against the chapter's words.
func (p *pair) checkTold(t *testing.T, calls []call) {
	t.Helper()
	if got, want := p.n.Epoch(), len(p.m.s.Chain()); got != want {
		t.Fatalf("%v: Epoch is %d, not %d", calls, got, want)
	}
	if got, want := p.n.IDs(), p.m.s.IDs(); !slices.Equal(got, want) {
		t.Fatalf("%v: IDs are %q, not %q", calls, got, want)
	}
	for _, id := range []string{"a", "b", "c", "A", ""} {
		got, e := p.n.Serve(id)
		if want, wantE := p.m.s.Serve(id); got != want || e != wantE {
			t.Fatalf("%v: Serve(%s) is %q, %v, not %q, %v", calls, id, got, e, want, wantE)
		}
	}
}

// checkTheorem asks whether the node still has what it had, and tells it as it
// was, by messages that may be and come from it. (No digest changes anything.)
func (p *pair) checkTheorem(t *testing.T, calls []call) {
	t.Helper()
	posts, chain := map[string]string{}, []string(nil)
	ids := p.n.IDs()
	for i, id := range ids {
		others := slices.Concat(ids[:i], ids[i+1:])
		for _, m := range p.tells(t, calls, digestOf(0, p.m.me, p.n.Epoch(), others...)) {
			for _, one := range m.Posts {
				posts[one.ID] = one.Raw
			}
		}
		if _, is := posts[id]; !is || len(posts) != i+1 {
			t.Fatalf("%v: of %s there is told %.90q", calls, id, posts)
		}
	}
	for epoch := range p.n.Epoch() {
		for _, m := range p.tells(t, calls, digestOf(0, p.m.me, epoch, ids...)) {
			chain = append(chain, shown(api.Msg{Policy: m.Policy}))
		}
	}
	for id, raw := range p.posts {
		if again, is := posts[id]; !is || again != raw {
			t.Fatalf("%v: %s was %.60q, and is %.60q, %v", calls, id, raw, again, is)
		}
	}
	if len(chain) != p.n.Epoch() || len(chain) < len(p.chain) || !slices.Equal(chain[:len(p.chain)], p.chain) {
		t.Fatalf("%v: the policies were %q, and are %q", calls, p.chain, chain)
	}
	p.posts, p.chain = posts, chain
}

// tells are the answers to a digest, which may be, and come from the node.
func (p *pair) tells(t *testing.T, calls []call, m api.Msg) []api.Msg {
	t.Helper()
	l, e := p.n.Take(m)
	if e != api.OK {
		t.Fatalf("%v: Take of %.90s answers %v", calls, shown(m), e)
	}
	for _, one := range l {
		if !msg.Right(one) || one.From != p.m.me || one.To != m.From {
			t.Fatalf("%v: Take of %.90s tells %.90s", calls, shown(m), shown(one))
		}
	}
	return l
}

// checkAllCalls holds nodes against the chapter's words at all lists of so many
// of some calls, behind others. (A list holds its beginnings, too.)
func checkAllCalls(t *testing.T, first, of []call, many int) {
	t.Helper()
	var all func(calls []call, many int)
	all = func(calls []call, many int) {
		if many == 0 {
			checkCalls(t, append(calls[:len(calls):len(calls)], call{do: 'r'}, call{do: 'o', n: 1}, call{do: 't', n: 2}))
			return
		}
		for _, c := range of {
			all(append(calls[:len(calls):len(calls)], c), many-1)
		}
	}
	all(slices.Clone(first), many)
}

// ingestsOf are calls that take in posts.
func ingestsOf(posts ...string) []call {
	var calls []call
	for _, p := range posts {
		calls = append(calls, call{do: 'i', s: p})
	}
	return calls
}

// takesOf are calls that take messages.
func takesOf(l ...api.Msg) []call {
	var calls []call
	for _, m := range l {
		calls = append(calls, call{do: 'm', m: m})
	}
	return calls
}

func TestAllShortLists(t *testing.T) {
	of := slices.Concat(
		ingestsOf("a <b>x", "b y", "A x"),
		takesOf(policyOf(0, 1, lets(1, "b")), policyOf(2, 1, lets(2)), postsOf(2, 1, "a z", "c <i>w"), postsOf(0, 1, "A x", "c x"), digestOf(3, 1, 0, "a"), ackOf(2, 1, 0)),
		[]call{{do: 't', n: 2}, {do: 'o', n: 1}, {do: 'a', n: 1}, {do: 'r', n: 9}},
	)
	checkAllCalls(t, []call{{do: 'o', n: 1}}, of, 4)
}

// TestAllLongerLists: fewer calls, and more of them.
func TestAllLongerLists(t *testing.T) {
	of := slices.Concat(
		ingestsOf("a <b>x"),
		takesOf(policyOf(0, 1, lets(1, "b")), policyOf(2, 1, lets(2)), postsOf(2, 1, "b y", "c <i>w")),
		[]call{{do: 't', n: 5}},
	)
	checkAllCalls(t, []call{{do: 'o', n: 1}}, of, 6)
}

// TestAllLosses: the power goes at any write, and any of what waits is kept.
func TestAllLosses(t *testing.T) {
	first := slices.Concat([]call{{do: 'o', n: 1}}, ingestsOf("a <b>x"), takesOf(policyOf(0, 1, lets(1, "b"))))
	of := slices.Concat(takesOf(postsOf(2, 1, "a z", "b y", "c w"), policyOf(0, 1, lets(2))), []call{{do: 't', n: 3}, {do: 'o', n: 1}, {do: 'r', n: 4}, {do: 'r', n: 99}})
	for armed := range 8 {
		checkAllCalls(t, append(slices.Clone(first), call{do: 'a', n: armed}), of, 4)
	}
}

// TestAllDigests: all digests of some epochs and some IDs, of all numbers, at
// nodes of all numbers.
func TestAllDigests(t *testing.T) {
	ids := []string{"0", "a", "b", "bb", "c", "z"}
	for me := 1; me <= 5; me++ {
		first := slices.Concat([]call{{do: 'o', n: me}}, ingestsOf("c x", "a ", "bb y"), takesOf(policyOf(0, me, lets(1, "b")), policyOf(0, me, lets(2))))
		var of []call
		for bits := range 1 << len(ids) {
			var some []string
			for i, id := range ids {
				if bits>>i&1 == 1 {
					some = append(some, id)
				}
			}
			for _, epoch := range []int{-1, 0, 1, 2, 3, 1000000, 1000001} {
				for from := -1; from <= 6; from++ {
					of = append(of, takesOf(digestOf(from, me, epoch, some...))...)
				}
			}
		}
		checkCalls(t, append(first, of...))
	}
}

// TestAllSizes: digests at posts of sizes whose sums are near 8000.
func TestAllSizes(t *testing.T) {
	sizes := []int{0, 1, 1999, 2000}
	for i := range 1 << 12 {
		calls := []call{{do: 'o', n: 1}}
		for at := range 6 {
			size := sizes[i>>(2*at)&3]
			calls = append(calls, ingestsOf(sized(string(rune('a'+at)), size))...)
		}
		p := &pair{d: dev.New(), m: model{d: dev.New()}}
		calls = append(calls, takesOf(digestOf(2, 1, 0), digestOf(2, 1, 0, "a"), digestOf(2, 1, 0, "b", "d"), digestOf(2, 1, 0, "f"))...)
		for _, c := range calls {
			if got, want := p.do(c); got.e != want.e || !slices.Equal(got.told, want.told) {
				t.Fatalf("sizes %b: %v, %.300q, not %v, %.300q", i, got.e, got.told, want.e, want.told)
			}
		}
	}
}

// TestAllNumbers: Open and Tick of all numbers, the ends of int among them, and
// messages of all kinds, from and to all.
func TestAllNumbers(t *testing.T) {
	numbers := []int{math.MinInt, math.MinInt + 1, -5, -1, 0, 1, 2, 3, 4, 5, 6, 7, math.MaxInt - 1, math.MaxInt}
	for _, me := range numbers {
		calls := []call{{do: 'o', n: 3}}
		calls = append(calls, ingestsOf("a <b>x")...)
		calls = append(calls, call{do: 'o', n: me})
		for _, n := range numbers {
			calls = append(calls, call{do: 't', n: n})
			for _, to := range numbers {
				calls = append(calls, takesOf(digestOf(n, to, 0), postsOf(n, to, "a x"), policyOf(n, to, lets(2)), ackOf(n, to, 0), api.Msg{Kind: n, From: 1, To: to}, api.Msg{Kind: n, To: to})...)
			}
		}
		checkCalls(t, calls)
	}
}

// TestAllFull: calls at a device that has room for little more.
func TestAllFull(t *testing.T) {
	first := slices.Concat([]call{{do: 'o', n: 1}}, takesOf(policyOf(0, 1, lets(1, "b"))), ingestsOf("a <b>x", "b "))
	for i := range 29 {
		first = append(first, ingestsOf(fmt.Sprintf("n%02d %s", i, strings.Repeat("w", 2000)))...)
	}
	first = append(first, ingestsOf("rest "+strings.Repeat("w", 1690))...)
	of := slices.Concat(
		takesOf(postsOf(2, 1, "c 12", "d "), postsOf(2, 1, "a 1", "c 123", "d 1", "e "+strings.Repeat("x", 30), "f "), policyOf(0, 1, lets(2))),
		[]call{{do: 't', n: 1}, {do: 'o', n: 1}, {do: 'a', n: 1}, {do: 'r', n: 4}},
	)
	checkAllCalls(t, first, of, 2)
}

// two are two nodes, and what is under way between them, as texts.
type two struct {
	devs  [2]*dev.Dev
	nodes [2]*Node
	under []string
	full  bool // there was no room for something
}

func newTwo(t *testing.T) *two {
	w := new(two)
	for i := range w.devs {
		w.devs[i] = dev.New()
		w.nodes[i] = opened(t, i+1, w.devs[i])
	}
	return w
}

// rawOf is what is taken in of an ID, at whichever node.
func rawOf(id string) string { return strings.Repeat("<b>"+id+"<i>", 1+int(id[0])*13%60) }

// send lays messages between the nodes behind all that is under way.
func (w *two) send(t *testing.T, l []api.Msg) {
	t.Helper()
	for _, m := range l {
		text, e := msg.Encode(m)
		want(t, "msg.Encode", e, api.OK)
		if m.To == 1 || m.To == 2 {
			w.under = append(w.under, text)
		}
	}
}

// come lets the n-th message come.
func (w *two) come(t *testing.T, n int) {
	t.Helper()
	m, e := msg.Decode(w.under[n])
	want(t, "msg.Decode", e, api.OK)
	w.under = slices.Delete(w.under, n, n+1)
	if to := w.nodes[m.To-1]; to != nil {
		l, e := to.Take(m)
		w.full = w.full || e == api.ErrFull
		w.send(t, l)
	}
}

// step is one step of a text: what, at which node, and which message or which
// post, or how many bytes.
func (w *two) step(t *testing.T, do byte, at, n int) {
	t.Helper()
	node, id := w.nodes[at], fmt.Sprintf("%c%d", 'a'+rune(n), at)
	switch {
	case do == 'r':
		w.devs[at].Restart(n * 40)
		w.nodes[at] = opened(t, at+1, w.devs[at])
	case do == 'a':
		w.devs[at].Arm(n)
	case do == 'i':
		w.full = w.full || node.Ingest(id, rawOf(id)) == api.ErrFull
	case do == 'p':
		// The policies are the coordinator's: they are the same at both nodes.
		epoch := node.Epoch() + 1
		_, e := node.Take(policyOf(0, at+1, lets(epoch, []string{"a", "b", "i"}[min(epoch-1, 3):]...)))
		w.full = w.full || e == api.ErrFull
	case do == 't':
		w.send(t, node.Tick(2))
	case n >= len(w.under):
	case do == 'd':
		w.come(t, n)
	case do == 'x':
		w.under = slices.Delete(w.under, n, n+1)
	case do == 'w':
		w.under = append(w.under, w.under[n])
	}
}

// checkTwo asks, behind steps of a text, whether two nodes that hear of one
// another again and again have the same at last.
func checkTwo(t *testing.T, s string) {
	t.Helper()
	w := newTwo(t)
	for i := 0; i+1 < len(s) && i < 200; i += 2 {
		do := s[i]
		if strings.IndexByte("rainptdxw", do) < 0 {
			do = "iptdtdxwra"[do%10]
		}
		n := max(int(s[i+1])-'0', 0) % 20
		w.step(t, do, n%2, n/2)
	}
	for i := range w.nodes {
		w.step(t, 'r', i, 0)
	}
	one, other := w.nodes[0], w.nodes[1]
	// A round brings one policy and at least one post, and makes one post.
	for range max(one.Epoch(), other.Epoch()) + len(one.IDs()) + len(other.IDs()) + 4 {
		for i, n := range w.nodes {
			w.send(t, n.Tick(2))
			// What comes may be answered: that comes at once, too.
			for len(w.under) > 0 {
				w.come(t, len(w.under)*i/2)
			}
		}
	}
	if w.full || max(len(w.devs[0].Bytes()), len(w.devs[1].Bytes())) > 50000 {
		// There was no room, or perhaps none for a clean form.
		return
	}
	if !slices.Equal(one.IDs(), other.IDs()) || one.Epoch() != other.Epoch() {
		t.Fatalf("%.200q: %q, %d, and %q, %d", s, one.IDs(), one.Epoch(), other.IDs(), other.Epoch())
	}
	for _, id := range one.IDs() {
		first, e := one.Serve(id)
		second, f := other.Serve(id)
		if first != second || e != f {
			t.Fatalf("%.200q: %s is served %.60q, %v, and %.60q, %v", s, id, first, e, second, f)
		}
	}
}

// TestAllTwo: all short lists of steps.
func TestAllTwo(t *testing.T) {
	steps := []string{"i0", "i1", "i2", "p0", "t0", "t1", "d0", "x0", "a2", "r1"}
	var all func(s string, many int)
	all = func(s string, many int) {
		if many == 0 {
			checkTwo(t, s)
			return
		}
		for _, step := range steps {
			all(s+step, many-1)
		}
	}
	all("", 3)
}

func FuzzTexts(f *testing.F) {
	for _, s := range []string{
		"", "i0i1t0t1d0d0d0d0", "i0i2i4p0p0t0t1d1d0w0x0d0", "p0p1i1t1d0a2i0t0r0t1d0d0", "i0a1i2i4r3p0t0t1d0d0d0", "i0i1i2i3i4i5i6i7i8i9p0p0p0t1d0d0d0",
		"o1iaibp1t2m0", "o1p1p2iap1t5a1ibr9o1t1", "o2iaq1p1q2d0d1d2", "o1a2q1r4o1q1t3", "o1n1n2n3n4n5d0d1t9", "o9o0o5k1k4x3t3",
	} {
		f.Add(s)
	}
	f.Fuzz(func(t *testing.T, s string) {
		checkTwo(t, s)
		checkCalls(t, callsOf(s))
	})
}

// callsOf are calls of a text, one of each pair of bytes: which one, and a number
// that says what it is handed.
func callsOf(s string) []call {
	const dos = "itpqdnkaro"
	me := 1 + len(s)%5
	other := me%5 + 1
	calls := []call{{do: 'o', n: me}}
	for i := 0; i+1 < len(s) && len(calls) < 60; i += 2 {
		n := max(int(s[i+1])-'0', 0)
		do := s[i]
		if strings.IndexByte(dos, do) < 0 {
			do = dos[int(do)%len(dos)]
		}
		id := string(s[i+1])
		switch do {
		case 'i':
			calls = append(calls, ingestsOf(id+" "+strings.Repeat("<b>x&", n%401))...)
		case 'p':
			calls = append(calls, takesOf(policyOf(n%6, me, lets(n%7, []string{"a", "b", "i"}[min(n/3, 3):]...)))...)
		case 'q':
			calls = append(calls, takesOf(postsOf(other, me, id+" q", id+"0 "+strings.Repeat("z", n*25), "x "+s[i:], "z 1"))...)
		case 'd':
			calls = append(calls, takesOf(digestOf(other, me, n%7, id, "x"))...)
		case 'n':
			calls = append(calls, ingestsOf("n"+id+" "+strings.Repeat("<i>", n*20))...)
		case 'k':
			calls = append(calls, takesOf(api.Msg{Kind: n, From: other, To: me}, api.Msg{Kind: 1 + n%4, From: n % 6, To: n / 6})...)
		default:
			calls = append(calls, call{do: do, n: n})
		}
	}
	return calls
}
