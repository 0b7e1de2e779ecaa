package dev

import (
	"bytes"
	"fmt"
	"math"
	"slices"
	"strings"
	"testing"

	"verso/api"
)

// What follows is the chapter's section Promises, in other words than the
// package's: each byte says of itself whether it waits, and a device that is
// armed knows how many calls had answered OK when it was.

type cell struct {
	b     byte
	waits bool
}

type model struct {
	cells []cell
	gone  bool
	armed bool
	since int // how many calls had answered OK when it was armed
	bound int // how many may from then on
	fine  int // how many calls answered OK
}

// write is a call that counts: other is the error that it answers of itself.
func (m *model) write(other api.Errno, do func()) api.Errno {
	if m.gone {
		return api.ErrDead
	}
	if other != api.OK {
		return other
	}
	if m.armed && m.fine-m.since == m.bound {
		m.gone = true
		return api.ErrDead
	}
	m.fine++
	do()
	return api.OK
}

func (m *model) settle() {
	for i := range m.cells {
		m.cells[i].waits = false
	}
}

func (m *model) restart(keep int) {
	var stay []cell
	for _, c := range m.cells {
		if c.waits && keep <= 0 {
			continue
		}
		if c.waits {
			keep--
		}
		stay = append(stay, cell{c.b, false})
	}
	m.cells, m.gone, m.armed = stay, false, false
}

func (m *model) all() []byte {
	var out []byte
	for _, c := range m.cells {
		out = append(out, c.b)
	}
	return out
}

// lasting are those that no loss of power takes.
func (m *model) lasting() []byte {
	var out []byte
	for _, c := range m.cells {
		if !c.waits {
			out = append(out, c.b)
		}
	}
	return out
}

// call is one of a device's, with its number or its bytes.
type call struct {
	do byte
	n  int
	b  string
}

func (c call) String() string {
	if c.do == 'a' {
		return fmt.Sprintf("Append(%d bytes, %.9q)", len(c.b), c.b)
	}
	return map[byte]string{'s': "Sync", 't': "Trim", 'm': "Arm", 'r': "Restart"}[c.do] + fmt.Sprintf("(%d)", c.n)
}

// on is a call of a device.
func (c call) on(d *Dev) api.Errno {
	switch c.do {
	case 'a':
		return d.Append([]byte(c.b))
	case 's':
		return d.Sync()
	case 't':
		return d.Trim(c.n)
	case 'm':
		d.Arm(c.n)
	case 'r':
		d.Restart(c.n)
	}
	return api.OK
}

// by is a call as the chapter's words have it.
func (c call) by(m *model) api.Errno {
	other := api.OK
	switch c.do {
	case 'a':
		if len(m.cells)+len(c.b) > 60000 {
			other = api.ErrFull
		}
		return m.write(other, func() {
			for _, b := range []byte(c.b) {
				m.cells = append(m.cells, cell{b, true})
			}
		})
	case 's':
		return m.write(other, m.settle)
	case 't':
		if c.n < 0 || len(m.cells) < c.n {
			other = api.ErrArg
		}
		return m.write(other, func() {
			m.cells = m.cells[:c.n]
			m.settle()
		})
	case 'm':
		if !m.gone {
			m.armed, m.since, m.bound = c.n >= 0, m.fine, c.n
		}
	case 'r':
		m.restart(c.n)
	}
	return api.OK
}

// checkCalls holds a new device against the chapter's words, at calls one behind
// the other, and asks the theorem behind each of them.
func checkCalls(t *testing.T, calls []call) {
	t.Helper()
	d, m := New(), &model{}
	armed := false
	for i, c := range calls {
		lasting := m.lasting()
		got, want := c.on(d), c.by(m)
		all := d.Bytes()
		if got != want || d.Off() != m.gone || !bytes.Equal(all, m.all()) {
			t.Fatalf("%v: %v, not %v; Off %v; %d bytes: %.20q, not %.20q", calls[:i+1], got, want, d.Off(), len(all), all, m.all())
		}
		if c.do != 't' && !bytes.HasPrefix(all, lasting) {
			t.Fatalf("%v: %.20q was synced, and is no beginning of %.20q", calls[:i+1], lasting, all)
		}
		armed = armed || c.do == 'm' && c.n >= 0
		if !armed && got == api.ErrDead {
			t.Fatalf("%v: ErrDead, and it was not armed", calls[:i+1])
		}
	}
}

// checkAllCalls holds a device against the chapter's words at all lists of so
// many of some calls, behind others. (A list holds its beginnings, too.)
func checkAllCalls(t *testing.T, first, of []call, many int) {
	t.Helper()
	var all func(calls []call, many int)
	all = func(calls []call, many int) {
		if many == 0 {
			checkCalls(t, calls)
			return
		}
		for _, c := range of {
			all(append(calls[:len(calls):len(calls)], c), many-1)
		}
	}
	all(slices.Clone(first), many)
}

func TestAllShortLists(t *testing.T) {
	checkAllCalls(t, nil, []call{
		{do: 'a', b: "x"}, {do: 'a', b: "yz"}, {do: 's'},
		{do: 't', n: 0}, {do: 't', n: 1}, {do: 't', n: 3},
		{do: 'm', n: -1}, {do: 'm', n: 0}, {do: 'm', n: 1}, {do: 'm', n: 2},
		{do: 'r', n: 0}, {do: 'r', n: 1}, {do: 'r', n: 2},
	}, 5)
}

// TestAllLongerLists: fewer calls, and more of them.
func TestAllLongerLists(t *testing.T) {
	checkAllCalls(t, nil, []call{{do: 'a', b: "xy"}, {do: 's'}, {do: 't', n: 1}, {do: 'm', n: 2}, {do: 'r', n: 1}}, 8)
	checkAllCalls(t, nil, []call{{do: 'a', b: "x"}, {do: 's'}, {do: 'm', n: 0}, {do: 'r', n: 1}}, 9)
}

// TestAllWrongNumbers: numbers that may not be, and those at the ends of int,
// behind bytes that last and bytes that wait.
func TestAllWrongNumbers(t *testing.T) {
	of := []call{{do: 'a', b: "x"}, {do: 'a'}, {do: 's'}}
	for _, n := range []int{math.MinInt, -2, 4, math.MaxInt - 1, math.MaxInt} {
		of = append(of, call{do: 't', n: n}, call{do: 'm', n: n}, call{do: 'r', n: n})
	}
	checkAllCalls(t, []call{{do: 'a', b: "ab"}, {do: 's'}, {do: 'a', b: "cd"}}, of, 4)
}

// TestAllFull: calls at a device that has room for 1 byte more.
func TestAllFull(t *testing.T) {
	first := []call{{do: 'a', b: strings.Repeat("a", 30000)}, {do: 's'}, {do: 'a', b: strings.Repeat("b", 29999)}}
	checkAllCalls(t, first, []call{{do: 'a', b: "x"}, {do: 'a', b: "yz"}, {do: 'a'}, {do: 's'}, {do: 't', n: 59998}, {do: 'm', n: 0}, {do: 'r', n: 29998}}, 3)
}

func FuzzTexts(f *testing.F) {
	for _, s := range []string{"", "a3s0a2r1", "m1a1s0", "a5t2r0", "m0t9a1", "a1a2a3s0a4m2a1s0a1r2s0", "A2A2a1s0r0", "a1m1a1r1t-t9"} {
		f.Add(s)
	}
	f.Fuzz(func(t *testing.T, s string) { checkCalls(t, callsOf(s)) })
}

// callsOf are calls of a text, one of each pair of bytes: which one, and how
// much. A large A appends 10000 times as much as a small one does.
func callsOf(s string) []call {
	var calls []call
	for i := 0; i+1 < len(s) && len(calls) < 60; i += 2 {
		n := int(s[i+1]) - '0'
		c := call{do: "astmrA"[s[i]%6], n: n}
		if k := strings.IndexByte("astmrA", s[i]); k >= 0 {
			c.do = s[i]
		}
		switch c.do {
		case 'a':
			c.b = strings.Repeat(string(rune('a'+i%26)), max(n, 0))
		case 'A':
			c.do, c.b = 'a', strings.Repeat("A", 10000*(max(n, 0)%8))
		}
		calls = append(calls, c)
	}
	return calls
}
