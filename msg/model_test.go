package msg

import (
	"fmt"
	"regexp"
	"slices"
	"strings"
	"testing"

	"verso/api"
	"verso/policy"
)

// What follows is the chapter's sections Words and Promises, in other words than
// the package's: a text is gone through byte by byte, and a message is made of
// its fields, each held against what it may be.

func fieldBy(s string) string { return fmt.Sprintf("%d:%s,", len(s), s) }

func numberBy(n int) string { return fieldBy(fmt.Sprint(n)) }

// textBy is what Encode would tell of a message, whether it may be or not.
func textBy(m api.Msg) string {
	fields := []string{numberBy(m.Kind), numberBy(m.From), numberBy(m.To), numberBy(m.Epoch)}
	if m.Kind == 1 {
		fields = append(fields, numberBy(len(m.IDs)))
		for _, id := range m.IDs {
			fields = append(fields, fieldBy(id))
		}
	}
	if m.Kind == 2 {
		fields = append(fields, numberBy(len(m.Posts)))
		for _, p := range m.Posts {
			fields = append(fields, fieldBy(p.ID), fieldBy(p.Raw))
		}
	}
	if m.Kind == 3 {
		text, _ := policy.Text(m.Policy)
		fields = append(fields, fieldBy(text))
	}
	return strings.Join(fields, "")
}

// rightBy tells whether a message may be.
func rightBy(m api.Msg) bool {
	// What its kind has, and no more.
	bare := api.Msg{Kind: m.Kind, From: m.From, To: m.To}
	ids := m.IDs
	switch m.Kind {
	case 1:
		bare.Epoch, bare.IDs = m.Epoch, m.IDs
	case 2:
		bare.Posts, ids = m.Posts, nil
		for _, p := range m.Posts {
			ids = append(ids, p.ID)
			if len(p.Raw) > 2000 {
				return false
			}
		}
	case 3:
		bare.Policy = m.Policy
		if !policy.Right(m.Policy) {
			return false
		}
	case 4:
		bare.Epoch = m.Epoch
	default:
		return false
	}
	once := slices.Compact(slices.Sorted(slices.Values(ids)))
	if len(ids) > 64 || !slices.Equal(once, ids) || slices.ContainsFunc(ids, func(id string) bool { return id == "" || len(id) > 16 }) {
		return false
	}
	node := func(n int) bool { return slices.Contains([]int{0, 1, 2, 3, 4, 5}, n) }
	return same(m, bare) && node(m.From) && node(m.To) && m.From != m.To && m.Epoch >= 0 && m.Epoch <= 1000000
}

// What may stand at a place of a text.
const (
	first   = iota // a field's first digit, or the text's end
	digits         // a digit more, or `:`
	within         // a byte of a field's text
	closing        // `,`
)

// fieldsBy are the fields of a text, if it is fields; else ErrShort or ErrForm.
func fieldsBy(s string) ([]string, api.Errno) {
	var fields []string
	at, size, many, text := first, 0, 0, ""
	for i := range len(s) {
		b := s[i]
		digit := '0' <= b && b <= '9'
		switch {
		case at == first && digit:
			at, size, many, text = digits, int(b-'0'), 1, ""
		case at == digits && digit && size > 0:
			size, many = min(size*10+int(b-'0'), 1<<40), many+1
		case at == digits && b == ':' && size == 0:
			at = closing
		case at == digits && b == ':':
			// All of it at once: a text may be long.
			at, text = within, s[i+1:min(i+1+size, len(s))]
			size++
			fallthrough
		case at == within:
			size--
			if size == 0 {
				at = closing
			}
		case at == closing && b == ',':
			fields, at = append(fields, text), first
		default:
			return nil, api.ErrForm
		}
	}
	if at == first && s != "" {
		return fields, api.OK
	}
	if at != first && many <= 6 {
		return nil, api.ErrShort
	}
	return nil, api.ErrForm
}

// endsBy are the places of a text of fields at which one ends.
func endsBy(s string) []int {
	ends := []int{0}
	fields, _ := fieldsBy(s)
	for _, text := range fields {
		ends = append(ends, ends[len(ends)-1]+len(fieldBy(text)))
	}
	return ends
}

// number are the decimal digits that one of a message's may have.
var number = regexp.MustCompile(`^(?:0|[1-9][0-9]{0,6})$`)

// messageBy is the message of fields, if they are one's.
func messageBy(fields []string) (api.Msg, bool) {
	var m api.Msg
	if len(fields) < 4 {
		return m, false
	}
	for i, at := range []*int{&m.Kind, &m.From, &m.To, &m.Epoch} {
		if !number.MatchString(fields[i]) {
			return m, false
		}
		fmt.Sscan(fields[i], at)
	}
	body := fields[4:]
	switch {
	case m.Kind == 1 && len(body) > 0 && body[0] == fmt.Sprint(len(body)-1):
		m.IDs = body[1:]
	case m.Kind == 2 && len(body)%2 == 1 && body[0] == fmt.Sprint(len(body)/2):
		for i := 1; i < len(body); i += 2 {
			m.Posts = append(m.Posts, api.Post{ID: body[i], Raw: body[i+1]})
		}
	case m.Kind == 3 && len(body) == 1:
		m.Policy, _ = policy.Read(body[0])
	case m.Kind == 4 && len(body) == 0:
	default:
		return m, false
	}
	return m, rightBy(m)
}

func decodeBy(s string) (api.Msg, api.Errno) {
	fields, e := fieldsBy(s)
	if e != api.OK {
		return api.Msg{}, e
	}
	if m, is := messageBy(fields); is {
		return m, api.OK
	}
	return api.Msg{}, api.ErrForm
}

// checkText holds Decode at a text against the chapter's words, and asks that
// Encode undoes it.
func checkText(t *testing.T, s string) {
	t.Helper()
	m, e := Decode(s)
	want, wantE := decodeBy(s)
	if e != wantE || !same(m, want) {
		t.Fatalf("Decode(%q) is %+v, %v, not %v", s, m, e, wantE)
	}
	if e != api.OK {
		return
	}
	if again, e := Encode(m); again != s || e != api.OK {
		t.Fatalf("Encode of what Decode tells of %q is %q, %v", s, again, e)
	}
}

// checkMessage holds the calls at a message against the chapter's words, and
// asks that Decode undoes Encode.
func checkMessage(t *testing.T, m api.Msg) {
	t.Helper()
	right := rightBy(m)
	if got := Right(m); got != right {
		t.Fatalf("Right(%+v) is %v", m, got)
	}
	s, e := Encode(m)
	checkText(t, textBy(m))
	if !right {
		if s != "" || e != api.ErrForm {
			t.Fatalf("Encode(%+v) is %q, %v", m, s, e)
		}
		return
	}
	if s != textBy(m) || e != api.OK {
		t.Fatalf("Encode(%+v) is %q, %v", m, s, e)
	}
	if n, e := Decode(s); e != api.OK || !same(m, n) {
		t.Fatalf("Decode(%q) is %+v, %v", s, n, e)
	}
}

// listsOf are all lists of at most so many of some things.
func listsOf[T any](of []T, many int) [][]T {
	all := [][]T{nil}
	for from := 0; many > 0; many-- {
		to := len(all)
		for _, list := range all[from:to] {
			for _, one := range of {
				all = append(all, append(slices.Clone(list), one))
			}
		}
		from = to
	}
	return all
}

// family are messages that may be and that may not.
func family() []api.Msg {
	ids := listsOf([]string{"", "a", "b", "abcdefghijklmnop", "abcdefghijklmnopq", "1:a,"}, 3)
	posts := listsOf([]api.Post{{}, {ID: "a"}, {ID: "a", Raw: "x"}, {ID: "b", Raw: "a"}, {ID: "b", Raw: strings.Repeat("x", 2001)}}, 3)
	second := least()
	second.Epoch = 2
	policies := []api.Policy{{}, least(), full(), second, {Epoch: 1}, {Elems: []string{"a"}}}
	var all []api.Msg
	for kind := range 6 {
		for _, epoch := range []int{-1, 0, 1, 12, 1000000, 1000001} {
			for _, ends := range [][2]int{{0, 1}, {1, 0}, {5, 0}, {3, 4}, {2, 2}, {0, 0}, {6, 1}, {1, 6}, {-1, 1}, {1, -1}} {
				bare := api.Msg{Kind: kind, From: ends[0], To: ends[1], Epoch: epoch}
				for _, list := range ids {
					all = append(all, with(bare, func(m *api.Msg) { m.IDs = list }))
				}
				for _, list := range posts {
					all = append(all, with(bare, func(m *api.Msg) { m.Posts = list }))
				}
				for _, p := range policies {
					all = append(all, with(bare, func(m *api.Msg) { m.Policy = p }))
					all = append(all, with(bare, func(m *api.Msg) { m.Policy, m.IDs = p, []string{"a"} }))
					all = append(all, with(bare, func(m *api.Msg) { m.Policy, m.Posts = p, []api.Post{{ID: "a"}} }))
				}
			}
		}
	}
	return all
}

func TestAllOfAFamily(t *testing.T) {
	told := map[string]api.Msg{}
	may := 0
	for _, m := range family() {
		checkMessage(t, m)
		s, e := Encode(m)
		if e != api.OK {
			continue
		}
		may++
		// Unlike messages have unlike texts.
		if other, is := told[s]; is && !same(m, other) {
			t.Fatalf("%q is the text of %+v and of %+v", s, m, other)
		}
		told[s] = m
	}
	if may < 300 {
		t.Errorf("only %d messages may be", may)
	}
}

// TestAllShortTexts: all short texts of the bytes that count, alone and behind
// some fields.
func TestAllShortTexts(t *testing.T) {
	var all func(s string, more int)
	all = func(s string, more int) {
		checkText(t, s)
		if more == 0 {
			return
		}
		for _, b := range []string{"0", "1", "2", ":", ",", "x"} {
			all(s+b, more-1)
		}
	}
	all("", 8)
	for _, ahead := range []string{"1:4,", "1:4,1:1,1:0,", "1:1,1:1,1:0,1:0,", "1:2,1:1,1:0,1:0,1:1,1:x,", "999999:", "1:3,1:1,1:0,1:0,"} {
		all(ahead, 6)
	}
}

// TestAllShortFields: all short lists of some fields, behind some others; and
// with one cut at its end.
func TestAllShortFields(t *testing.T) {
	of := []string{"0:,", "1:0,", "1:1,", "1:2,", "1:a,", "2:ab,", "1:b,", "2:01,", fieldBy(leastText)}
	for _, ahead := range []string{"", "1:0,1:1,1:0,1:0,", "1:1,1:1,1:0,1:0,", "1:1,1:1,1:0,1:2,", "1:2,1:1,1:0,1:0,", "1:2,1:1,1:0,1:2,", "1:3,1:1,1:0,1:0,", "1:4,1:1,1:0,1:0,", "1:5,1:1,1:0,1:0,"} {
		for _, list := range listsOf(of, 5) {
			s := ahead + strings.Join(list, "")
			checkText(t, s)
			for cut := 1; cut <= min(3, len(s)); cut++ {
				checkText(t, s[:len(s)-cut])
			}
		}
	}
}

// TestAllHeads: all short lists of fields, as the numbers that a message begins
// with.
func TestAllHeads(t *testing.T) {
	for _, list := range listsOf([]string{"1:0,", "1:1,", "1:2,", "1:3,", "1:4,", "1:5,", "1:6,", "2:-1,", "0:,", "7:1000000,", "7:1000001,", "1:x,"}, 4) {
		for _, behind := range []string{"", "1:0,", "1:1,1:a,", "1:1,1:a,1:x,", fieldBy(fullText)} {
			checkText(t, strings.Join(list, "")+behind)
		}
	}
}

// TestAllBytes: every byte at every place of some texts, instead of the one
// there, and beside it, and the text without it, and its beginning.
func TestAllBytes(t *testing.T) {
	ms := append(oneOfEach(), api.Msg{Kind: 4, To: 5, Epoch: 1000000}, api.Msg{Kind: 1, From: 3, IDs: []string{"1:a,", ":,", "abcdefghijklmnop"}}, api.Msg{Kind: 3, From: 3, Policy: least()})
	for _, m := range ms {
		s, e := Encode(m)
		if e != api.OK {
			t.Fatal(m, e)
		}
		for i := range len(s) + 1 {
			checkText(t, s[:i])
			for b := range 256 {
				c := string([]byte{byte(b)})
				checkText(t, s[:i]+c+s[i:])
				if i < len(s) {
					checkText(t, s[:i]+c+s[i+1:])
					checkText(t, s[:i]+c)
				}
			}
			if i < len(s) {
				checkText(t, s[:i]+s[i+1:])
			}
		}
	}
}

// TestAllLengths: beginnings of fields of all lengths' digits, and of whole
// fields, with fewer and more bytes than they say.
func TestAllLengths(t *testing.T) {
	for _, size := range []int{0, 1, 2, 9, 10, 11, 99, 100, 1000, 9999, 10000, 99999, 100000, 999999, 1000000, 1000001} {
		for _, many := range []int{0, 1, 2, size - 1, size, size + 1, size + 2} {
			if many < 0 {
				continue
			}
			for _, b := range []string{"x", ","} {
				s := fmt.Sprint(size) + ":" + strings.Repeat(b, many)
				for _, behind := range []string{"", ",", ",1", ",1:", ",x", "x"} {
					checkText(t, s+behind)
				}
			}
		}
		checkText(t, fmt.Sprint(size))
		checkText(t, "0"+fmt.Sprint(size))
		checkText(t, fmt.Sprint(size)+"x")
	}
}

func FuzzTexts(f *testing.F) {
	for _, m := range oneOfEach() {
		s, _ := Encode(m)
		f.Add(s)
		f.Add(s[:len(s)-1])
	}
	for _, s := range []string{"", "x", "1", "1:4,1:", "01:4,", "1:1,1:1,1:2,1:0,1:2,1:b,1:a,", "123456", "1234567", "1:4,1:1,1:1,1:2,"} {
		f.Add(s)
	}
	f.Fuzz(func(t *testing.T, s string) {
		checkText(t, s)
		checkMessage(t, anyMessage(s))
	})
}

// anyMessage is one whose numbers are made of a text's first bytes, and whose
// lists are the lines behind.
func anyMessage(s string) api.Msg {
	at := func(i int) int {
		if i < len(s) {
			return int(s[i]) - '0'
		}
		return 0
	}
	m := api.Msg{Kind: at(0), From: at(1), To: at(2), Epoch: at(3) * at(4)}
	lines := strings.Split(s[min(5, len(s)):], "\n")
	switch m.Kind {
	case 1:
		m.IDs = lines
	case 2:
		for i := 0; i+1 < len(lines); i += 2 {
			m.Posts = append(m.Posts, api.Post{ID: lines[i], Raw: lines[i+1]})
		}
	case 3:
		m.Policy = api.Policy{Epoch: len(s), Elems: lines, Depth: 1, Nodes: 1, Bytes: 1}
	}
	return m
}
