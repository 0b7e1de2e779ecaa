package mail

import (
	"fmt"
	"math"
	"slices"
	"strings"
	"testing"

	"verso/api"
	"verso/msg"
)

// What follows is the chapter's section Promises, in other words than the
// package's: each call makes a list of messages anew. Whether a message may be is
// asked of the package below, whose own tests hold it.

type model []api.Msg

// manyBy is how many messages have a number as their To.
func (m model) manyBy(to int) int {
	return len(slices.DeleteFunc(slices.Clone(m), func(one api.Msg) bool { return one.To != to }))
}

func (m model) putBy(one api.Msg) (model, api.Errno) {
	if !msg.Right(one) {
		return m, api.ErrArg
	}
	if m.manyBy(one.To) >= 16 {
		return m, api.ErrFull
	}
	return slices.Concat(m, model{one}), api.OK
}

func (m model) takeBy(n int) (model, api.Msg, bool) {
	for i, one := range m {
		if i == n {
			return slices.Concat(m[:i], m[i+1:]), one, true
		}
	}
	return m, api.Msg{}, false
}

func (m model) twiceBy(n int) (model, api.Errno) {
	for i, one := range m {
		if i == n {
			return m.putBy(one)
		}
	}
	return m, api.ErrNone
}

// call is one of a box's: a put, with its message, or a take or twice, with its
// number.
type call struct {
	do byte
	n  int
	m  api.Msg
}

func (c call) String() string {
	if c.do == 'p' {
		return fmt.Sprintf("Put(%.80s)", shown(c.m))
	}
	return map[byte]string{'t': "Take", 'w': "Twice"}[c.do] + fmt.Sprintf("(%d)", c.n)
}

// answer is what a call answers.
type answer struct {
	e  api.Errno
	m  string
	is bool
}

// on is a call of a box.
func (c call) on(b *Box) answer {
	switch c.do {
	case 'p':
		return answer{e: b.Put(c.m)}
	case 'w':
		return answer{e: b.Twice(c.n)}
	}
	m, is := b.Take(c.n)
	return answer{m: shown(m), is: is}
}

// by is a call as the chapter's words have it.
func (c call) by(m model) (model, answer) {
	var e api.Errno
	switch c.do {
	case 'p':
		m, e = m.putBy(c.m)
		return m, answer{e: e}
	case 'w':
		m, e = m.twiceBy(c.n)
		return m, answer{e: e}
	}
	m, one, is := m.takeBy(c.n)
	return m, answer{m: shown(one), is: is}
}

// checkCalls holds a new box against the chapter's words, at calls one behind
// the other, and asks the theorem behind each of them.
func checkCalls(t *testing.T, calls []call) {
	t.Helper()
	b, m := New(), model(nil)
	before, put := []string(nil), map[string]int{}
	for i, c := range calls {
		got := c.on(b)
		next, want := c.by(m)
		m = next
		list := b.All()
		all := shownAll(list)
		if got != want || cap(list) != len(list) || !slices.Equal(all, shownAll(m)) {
			t.Fatalf("%v: %v, not %v; %d messages: %.200q, not %.200q", calls[:i+1], got, want, len(all), all, shownAll(m))
		}
		for to, many := range b.Many() {
			if many != m.manyBy(to) || many > 16 {
				t.Fatalf("%v: %d are under way to %d, not %d", calls[:i+1], many, to, m.manyBy(to))
			}
		}
		checkTheorem(t, calls[:i+1], got, before, all, put)
		before = all
	}
}

// checkTheorem asks whether what the last call took had been put, or put twice,
// and whether all others stayed, in their order. How often each one was put, and
// not taken, stands in put.
func checkTheorem(t *testing.T, calls []call, got answer, before, all []string, put map[string]int) {
	t.Helper()
	c := calls[len(calls)-1]
	stay := all
	switch {
	case got.is:
		if put[got.m]--; put[got.m] < 0 {
			t.Fatalf("%v: it was not put", calls)
		}
		stay = slices.Insert(slices.Clone(all), c.n, got.m)
	case got.e == api.OK && c.do != 't':
		put[all[len(all)-1]]++
		stay = all[:len(all)-1]
	}
	if !slices.Equal(stay, before) {
		t.Fatalf("%v: of %.200q there stayed %.200q", calls, before, all)
	}
}

// checkAllCalls holds a box against the chapter's words at all lists of so many
// of some calls, behind others. (A list holds its beginnings, too.)
func checkAllCalls(t *testing.T, first, of []call, many int) {
	t.Helper()
	var all func(calls []call, many int)
	all = func(calls []call, many int) {
		if many == 0 {
			checkCalls(t, calls)
			return
		}
		for _, c := range of {
			all(append(calls[:len(calls):len(calls)], c), many-1)
		}
	}
	all(slices.Clone(first), many)
}

// puts are puts of messages.
func puts(l ...api.Msg) []call {
	var calls []call
	for _, m := range l {
		calls = append(calls, call{do: 'p', m: m})
	}
	return calls
}

// takes are takes and twices of numbers.
func takes(numbers ...int) []call {
	var calls []call
	for _, n := range numbers {
		calls = append(calls, call{do: 't', n: n}, call{do: 'w', n: n})
	}
	return calls
}

func TestAllShortLists(t *testing.T) {
	wrong := api.Msg{Kind: api.MAck, From: 1, To: 1}
	checkAllCalls(t, nil, slices.Concat(puts(ack(1, 1), ack(2, 2), oneOfEach()[1], wrong), takes(0, 1, 2)), 4)
	checkAllCalls(t, nil, slices.Concat(puts(ack(1, 1), ack(2, 2)), takes(0, 1)), 6)
}

// TestAllWrong: messages that may not be, and numbers of none, the ends of int
// among them.
func TestAllWrong(t *testing.T) {
	for _, first := range [][]api.Msg{nil, {ack(0, 1)}, oneOfEach(), acks(5, 0, 16)} {
		of := takes(math.MinInt, math.MinInt+1, -1, 0, len(first), 4, 16, math.MaxInt-1, math.MaxInt)
		for _, m := range []api.Msg{{}, {Kind: 4}, {Kind: 4, From: 6}, {Kind: 4, To: 6}, {Kind: 4, From: 1, To: -1}, {Kind: 3, From: 1}, {Kind: 5, From: 1}, ack(5, -1), ack(5, 1)} {
			of = append(of, puts(m)...)
		}
		checkAllCalls(t, puts(first...), of, 2)
	}
}

// TestAllFull: calls at a box with room for a message or two more.
func TestAllFull(t *testing.T) {
	of := slices.Concat(puts(ack(1, 97), ack(2, 98)), takes(0, 14))
	checkAllCalls(t, puts(acks(1, 0, 14)...), of, 4)
	checkAllCalls(t, puts(slices.Concat(acks(2, 0, 15), acks(1, 20, 15))...), of, 3)
	full := acks(0, 0, 16)
	for to := 1; to < 6; to++ {
		full = append(full, acks(to, 100*to, 16)...)
	}
	of = slices.Concat(puts(ack(0, 97), ack(5, 98), oneOfEach()[0]), takes(0, 17, 95, 96))
	checkAllCalls(t, puts(full...), of, 2)
}

func FuzzTexts(f *testing.F) {
	for _, s := range []string{"", "p0p1w0t0", "p1p1w1w2t0t9", "P1p1w0t3w0w0", "P0P1P2P3P4P5p0t0w9", "x0p5x5w-t-", "d1o2y3a4w2t1t1", "P3P3P3t0t0p3p3p3"} {
		f.Add(s)
	}
	f.Fuzz(func(t *testing.T, s string) { checkCalls(t, callsOf(s)) })
}

// callsOf are calls of a text, of each pair of bytes some: which ones, and where
// to, or of which number. A large P puts 7 at once, and d, o, y and a put
// messages of each kind.
func callsOf(s string) []call {
	const which = "ptwPxdoya"
	var calls []call
	for i := 0; i+1 < len(s) && len(calls) < 100; i += 2 {
		do, n := s[i], int(s[i+1])-'0'
		if strings.IndexByte(which, do) < 0 {
			do = which[do%9]
		}
		to := (n%6 + 6) % 6
		switch do {
		case 'p':
			calls = append(calls, puts(ack(to, i))...)
		case 'P':
			calls = append(calls, puts(acks(to, i, 7)...)...)
		case 'x':
			calls = append(calls, puts(api.Msg{Kind: n, From: n, To: to, Epoch: i})...)
		case 't', 'w':
			calls = append(calls, call{do: do, n: n})
		default:
			m := oneOfEach()[strings.IndexByte("doya", do)]
			m.To, m.From = to, (to+1+i%5)%6
			calls = append(calls, puts(m)...)
		}
	}
	return calls
}
