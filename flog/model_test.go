package flog

import (
	"bytes"
	"fmt"
	"slices"
	"strings"
	"testing"

	"verso/api"
	"verso/dev"
)

// What follows is the chapter's sections Words and Promises, in other words than
// the package's: no frame's length is read, but the lengths that there may be
// are laid, and held against the bytes.

// headBy is the beginning of the frame of a text of so many bytes.
func headBy(many int) [3]byte {
	return [3]byte{byte(many / 65536), byte(many / 256 % 256), byte(many % 256)}
}

// frameBy is a text's frame.
func frameBy(s string) string {
	head := headBy(len(s))
	return string(head[:]) + s
}

// firstBy is the text of the frame that bytes begin with, if they do.
func firstBy(all string) (string, bool) {
	for many := 0; many <= 20000 && 3+many <= len(all); many++ {
		if headBy(many) == [3]byte([]byte(all[:3])) {
			return all[3 : 3+many], true
		}
	}
	return "", false
}

// textsBy are the texts of bytes as far as they are frames, and what is left of
// the bytes behind those.
func textsBy(all string) ([]string, string) {
	var texts []string
	s, ok := firstBy(all)
	for ok {
		texts = append(texts, s)
		all = strings.TrimPrefix(all, frameBy(s))
		s, ok = firstBy(all)
	}
	return texts, all
}

// model does to a device of its own what the words say, and keeps apart what
// the theorem speaks of.
type model struct {
	d    *dev.Dev
	used bool // a log was opened, and the power was not gone since
	fine []string
	more []string // the text that answered ErrDead since the last loss, if one did
	wild bool     // bytes were laid on the device past the log: the theorem says nothing of them
}

func (m *model) open() ([]string, api.Errno) {
	m.used = false
	if m.d.Off() {
		return nil, api.ErrDead
	}
	all := string(m.d.Bytes())
	texts, rest := textsBy(all)
	if rest != "" && m.d.Trim(len(all)-len(rest)) != api.OK {
		return nil, api.ErrDead
	}
	m.used = true
	return texts, api.OK
}

func (m *model) append(s string) api.Errno {
	if len(s) > 20000 {
		return api.ErrLarge
	}
	e := m.d.Append([]byte(frameBy(s)))
	if e == api.OK {
		e = m.d.Sync()
	}
	switch {
	case e == api.OK:
		m.fine = append(m.fine, s)
	case e == api.ErrDead && m.more == nil:
		m.more = []string{s}
	}
	return e
}

// theorem tells whether Open may tell these texts: those that were answered for,
// and perhaps one more. What was told once is told from then on.
func (m *model) theorem(texts []string) bool {
	if m.wild {
		return true
	}
	if !slices.Equal(texts, m.fine) && !slices.Equal(texts, slices.Concat(m.fine, m.more)) {
		return false
	}
	m.fine, m.more = slices.Clone(texts), nil
	return true
}

// call is one of a log's or of its device's, with its number or its text.
type call struct {
	do byte
	n  int
	s  string
}

func (c call) String() string {
	what := map[byte]string{'o': "Open", 'a': "Append", 'm': "Arm", 'r': "Restart", 'w': "dev.Append"}[c.do]
	return fmt.Sprintf("%s(%d, %d bytes, %.9q)", what, c.n, len(c.s), c.s)
}

// checkCalls holds the logs of a new device against the chapter's words, at
// calls one behind the other.
func checkCalls(t *testing.T, calls []call) {
	t.Helper()
	d, m := dev.New(), &model{d: dev.New()}
	var l *Log
	for i, c := range calls {
		var got, want api.Errno
		switch c.do {
		case 'o':
			l, got, want = checkOpen(t, calls[:i+1], d, m)
		case 'a':
			// Behind a loss of power a log must be opened anew.
			if !m.used {
				continue
			}
			got, want = l.Append(c.s), m.append(c.s)
		case 'm':
			d.Arm(c.n)
			m.d.Arm(c.n)
		case 'r':
			d.Restart(c.n)
			m.d.Restart(c.n)
			m.used = false
		case 'w':
			// Of one device the log that was opened last is used alone.
			m.wild, m.used = true, false
			got, want = d.Append([]byte(c.s)), m.d.Append([]byte(c.s))
		}
		all := d.Bytes()
		if got != want || d.Off() != m.d.Off() || !bytes.Equal(all, m.d.Bytes()) {
			t.Fatalf("%v: %v, not %v; Off %v; %d bytes: %.20q, not %.20q", calls[:i+1], got, want, d.Off(), len(all), all, m.d.Bytes())
		}
		if l != nil && l.Size() != len(all) {
			t.Fatalf("%v: Size is %d, not %d", calls[:i+1], l.Size(), len(all))
		}
	}
}

// checkOpen holds the last call, an Open, against the chapter's words.
func checkOpen(t *testing.T, calls []call, d *dev.Dev, m *model) (*Log, api.Errno, api.Errno) {
	t.Helper()
	l, texts, e := Open(d)
	wantTexts, want := m.open()
	if (l != nil) != (e == api.OK) || !slices.Equal(texts, wantTexts) {
		t.Fatalf("%v: a log %v, %v, %.40q, not %.40q", calls, l != nil, e, texts, wantTexts)
	}
	if e == api.OK && !m.theorem(texts) {
		t.Fatalf("%v: %.40q, but answered for were %.40q, and perhaps %.40q", calls, texts, m.fine, m.more)
	}
	return l, e, want
}

// checkAllCalls holds logs against the chapter's words at all lists of so many
// of some calls, behind others. (A list holds its beginnings, too.)
func checkAllCalls(t *testing.T, first, of []call, many int) {
	t.Helper()
	var all func(calls []call, many int)
	all = func(calls []call, many int) {
		if many == 0 {
			checkCalls(t, append(calls[:len(calls):len(calls)], call{do: 'o'}, call{do: 'r', n: 0}, call{do: 'o'}, call{do: 'o'}))
			return
		}
		for _, c := range of {
			all(append(calls[:len(calls):len(calls)], c), many-1)
		}
	}
	all(slices.Clone(first), many)
}

// checkBytes holds a log of bytes against the chapter's words.
func checkBytes(t *testing.T, all string) {
	t.Helper()
	d := dev.New()
	if d.Append([]byte(all)) != api.OK {
		return
	}
	l, texts, e := Open(d)
	want, rest := textsBy(all)
	left := all[:len(all)-len(rest)]
	if l == nil || e != api.OK || !slices.Equal(texts, want) || string(d.Bytes()) != left || l.Size() != len(left) {
		t.Fatalf("%.40q: a log %v, %v, %.40q, not %.40q; %.40q is left, not %.40q", all, l != nil, e, texts, want, d.Bytes(), left)
	}
}

// TestAllShortBytes: all bytes of a few kinds, up to nine.
func TestAllShortBytes(t *testing.T) {
	var all func(s string, many int)
	all = func(s string, many int) {
		checkBytes(t, s)
		if many == 0 {
			return
		}
		for _, b := range []string{"\x00", "\x01", "\x02", "\x04"} {
			all(s+b, many-1)
		}
	}
	all("", 9)
}

// TestAllHeads: heads of many lengths, ahead of fewer, as many and more bytes.
func TestAllHeads(t *testing.T) {
	for _, size := range []int{0, 1, 127, 128, 255, 256, 257, 511, 512, 19999, 20000, 20001, 32767, 32768, 59990, 65535, 65536, 65537, 1<<24 - 1} {
		by := headBy(size)
		head := string(by[:])
		for _, many := range []int{0, 1, size - 1, size, size + 1, size + 2, size + 3} {
			if many < 0 || many > 59993 {
				continue
			}
			rest := strings.Repeat("\x00", many)
			checkBytes(t, head+rest)
			checkBytes(t, "\x00\x00\x01x"+head+rest)
		}
	}
}

func TestAllShortLists(t *testing.T) {
	checkAllCalls(t, []call{{do: 'o'}}, []call{
		{do: 'o'}, {do: 'a'}, {do: 'a', s: "xy"}, {do: 'a', s: "\x00\x00"},
		{do: 'm', n: -1}, {do: 'm', n: 0}, {do: 'm', n: 1}, {do: 'm', n: 3},
		{do: 'r', n: 0}, {do: 'r', n: 3}, {do: 'r', n: 4}, {do: 'r', n: 9},
	}, 5)
}

// TestAllLongerLists: fewer calls, and more of them.
func TestAllLongerLists(t *testing.T) {
	checkAllCalls(t, []call{{do: 'o'}}, []call{{do: 'o'}, {do: 'a', s: "x"}, {do: 'm', n: 1}, {do: 'r', n: 2}, {do: 'r', n: 4}}, 7)
	checkAllCalls(t, []call{{do: 'o'}}, []call{{do: 'o'}, {do: 'a', s: "\x00"}, {do: 'm', n: 3}, {do: 'r', n: 3}}, 8)
}

// TestAllWild: bytes that no log laid there, whole frames and others.
func TestAllWild(t *testing.T) {
	checkAllCalls(t, nil, []call{
		{do: 'w', s: "\x00\x00"}, {do: 'w', s: "\x01"}, {do: 'w', s: "\x00\x00\x01w"},
		{do: 'o'}, {do: 'a', s: "x"}, {do: 'm', n: 0}, {do: 'm', n: 1}, {do: 'r', n: 1},
	}, 6)
}

// TestAllFull: calls at a device that has room for a text of 2 bytes more.
func TestAllFull(t *testing.T) {
	first := []call{{do: 'o'}, {do: 'a', s: strings.Repeat("a", 20000)}, {do: 'a', s: strings.Repeat("b", 20000)}, {do: 'a', s: strings.Repeat("c", 19986)}}
	checkAllCalls(t, first, []call{
		{do: 'o'}, {do: 'a'}, {do: 'a', s: "xy"}, {do: 'a', s: "xyz"}, {do: 'a', s: strings.Repeat("d", 20001)},
		{do: 'm', n: 1}, {do: 'r', n: 5},
	}, 3)
}

func FuzzTexts(f *testing.F) {
	for _, s := range []string{"", "\x00\x00\x01x\x00\x00\x05y", "o0a3a0m1a5r2o0a1o0", "o0m1a1r9o0", "w2o0a3", "o0A9A9A9A9a9", "o0a2m0a1r0o0o0", "o0B1a1"} {
		f.Add(s)
	}
	f.Fuzz(func(t *testing.T, s string) {
		checkBytes(t, s)
		checkCalls(t, callsOf(s))
	})
}

// callsOf are calls of a text, one of each pair of bytes: which one, and how
// much. A large A appends 2000 times as much as a small one does, a large B a
// text that may be too long.
func callsOf(s string) []call {
	const dos = "oamrwAB"
	calls := []call{{do: 'o'}}
	for i := 0; i+1 < len(s) && len(calls) < 60; i += 2 {
		n := int(s[i+1]) - '0'
		c := call{do: dos[int(s[i])%len(dos)], n: n}
		if strings.IndexByte(dos, s[i]) >= 0 {
			c.do = s[i]
		}
		switch c.do {
		case 'a':
			c.s = strings.Repeat(string(rune(i%3)), max(n, 0))
		case 'w':
			c.s = strings.Repeat("\x00", max(n, 0)) + "\x02"
		case 'A':
			c.do, c.s = 'a', strings.Repeat("A", 2000*(max(n, 0)%11))
		case 'B':
			c.do, c.s = 'a', strings.Repeat("B", 20000+max(n, 0)%3)
		}
		calls = append(calls, c)
	}
	return calls
}
