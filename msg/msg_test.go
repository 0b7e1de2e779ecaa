package msg

import (
	"fmt"
	"math"
	"reflect"
	"slices"
	"strings"
	"testing"
	"unsafe"

	"verso/api"
	"verso/policy"
)

// The tests of ordinary inputs, and of the edges that the chapter names, say
// what they want one by one. Those in model_test.go hold the package against
// the chapter's words, at many messages and texts.

// least is a policy that lets nothing.
func least() api.Policy { return api.Policy{Epoch: 1, Depth: 1, Nodes: 1, Bytes: 1} }

const leastText = "epoch 1\ncaps 1 1 1\n"

// full is a policy with all lists.
func full() api.Policy {
	return api.Policy{
		Epoch: 7, Elems: []string{"a", "b", "li", "ol", "ul"}, Attrs: []string{"*.class", "a.href"}, Schemes: []string{"http", "https"},
		Classes: []string{"mention", "tag"}, Props: []string{"color", "text-align"}, Depth: 9, Nodes: 99, Bytes: 999,
	}
}

const fullText = "epoch 7\nelem a\nelem b\nelem li\nelem ol\nelem ul\nattr *.class\nattr a.href\nscheme http\nscheme https\nclass mention\nclass tag\nprop color\nprop text-align\ncaps 9 99 999\n"

// oneOfEach is a message of each kind, with all that it has.
func oneOfEach() []api.Msg {
	return []api.Msg{
		{Kind: api.MDigest, From: 1, To: 2, Epoch: 3, IDs: []string{"a", "b"}},
		{Kind: api.MPosts, From: 2, To: 1, Posts: []api.Post{{ID: "a", Raw: "<b>x</b>"}, {ID: "b", Raw: ""}}},
		{Kind: api.MPolicy, From: 0, To: 5, Policy: full()},
		{Kind: api.MAck, From: 4, To: 0, Epoch: 12},
	}
}

// with is a message with something done to it.
func with(m api.Msg, do func(m *api.Msg)) api.Msg {
	do(&m)
	return m
}

// numbered are n texts that rise.
func numbered(n int) []string {
	var out []string
	for i := range n {
		out = append(out, fmt.Sprintf("%04d", i))
	}
	return out
}

// postsOf are posts of those IDs.
func postsOf(ids ...string) []api.Post {
	var out []api.Post
	for _, id := range ids {
		out = append(out, api.Post{ID: id, Raw: "r" + id})
	}
	return out
}

// same tells whether messages are the same; an empty list is as one that is nil.
func same(m, n api.Msg) bool {
	for _, one := range []*api.Msg{&m, &n} {
		for _, list := range []*[]string{&one.IDs, &one.Policy.Elems, &one.Policy.Attrs, &one.Policy.Schemes, &one.Policy.Classes, &one.Policy.Props} {
			if len(*list) == 0 {
				*list = nil
			}
		}
		if len(one.Posts) == 0 {
			one.Posts = nil
		}
	}
	return reflect.DeepEqual(m, n)
}

// wantRight asks Right, and of a message that may be its text, read again; of
// one that may not be it asks for ErrForm, of its text, too.
func wantRight(t *testing.T, m api.Msg, want bool) {
	t.Helper()
	if got := Right(m); got != want {
		t.Errorf("Right(%.200v) is %v", m, got)
	}
	s, e := Encode(m)
	if !want {
		if s != "" || e != api.ErrForm {
			t.Errorf("Encode(%.200v) is %.100q, %v", m, s, e)
		}
		// Another message may have the same text, if what its kind does not have
		// is not told.
		if n, e := Decode(textBy(m)); e == api.OK && same(m, n) || e != api.OK && (e != api.ErrForm || !same(n, api.Msg{})) {
			t.Errorf("Decode(%.100q) is %.200v, %v", textBy(m), n, e)
		}
		return
	}
	if s != textBy(m) || e != api.OK {
		t.Errorf("Encode(%.200v) is %.100q, %v", m, s, e)
	}
	if n, e := Decode(s); e != api.OK || !same(n, m) {
		t.Errorf("Decode(%.100q) is %.200v, %v", s, n, e)
	}
}

func TestEncode(t *testing.T) {
	for _, c := range []struct {
		m    api.Msg
		want string
	}{
		// The chapter's own.
		{api.Msg{Kind: api.MAck, From: 1, Epoch: 2}, "1:4,1:1,1:0,1:2,"},
		{api.Msg{Kind: api.MAck, From: 5, To: 4}, "1:4,1:5,1:4,1:0,"},
		{api.Msg{Kind: api.MAck, To: 5, Epoch: 1000000}, "1:4,1:0,1:5,7:1000000,"},
		{api.Msg{Kind: api.MDigest, From: 1, To: 2}, "1:1,1:1,1:2,1:0,1:0,"},
		{api.Msg{Kind: api.MDigest, From: 1, To: 2, Epoch: 10, IDs: []string{"a", "b"}}, "1:1,1:1,1:2,2:10,1:2,1:a,1:b,"},
		{api.Msg{Kind: api.MDigest, From: 3, To: 0, IDs: []string{"\x00", ",", "1:x,", "2", "abcdefghijklmnop", "\xff"}}, "1:1,1:3,1:0,1:0,1:6,1:\x00,1:,,4:1:x,,1:2,16:abcdefghijklmnop,1:\xff,"},
		{api.Msg{Kind: api.MPosts, From: 2, To: 1}, "1:2,1:2,1:1,1:0,1:0,"},
		{api.Msg{Kind: api.MPosts, From: 2, To: 1, Posts: []api.Post{{ID: "a", Raw: "x,y"}}}, "1:2,1:2,1:1,1:0,1:1,1:a,3:x,y,"},
		{api.Msg{Kind: api.MPosts, From: 2, To: 1, Posts: []api.Post{{ID: "a"}, {ID: "ab", Raw: "12345678\n0"}}}, "1:2,1:2,1:1,1:0,1:2,1:a,0:,2:ab,10:12345678\n0,"},
		{api.Msg{Kind: api.MPolicy, To: 1, Policy: least()}, "1:3,1:0,1:1,1:0,19:" + leastText + ","},
		{api.Msg{Kind: api.MPolicy, From: 3, To: 1, Policy: full()}, "1:3,1:3,1:1,1:0,161:" + fullText + ","},
	} {
		if s, e := Encode(c.m); s != c.want || e != api.OK {
			t.Errorf("Encode(%v) is %q, %v, not %q", c.m, s, e, c.want)
		}
		if m, e := Decode(c.want); e != api.OK || !same(m, c.m) {
			t.Errorf("Decode(%q) is %v, %v", c.want, m, e)
		}
	}
}

func TestRightEnds(t *testing.T) {
	numbers := []int{math.MinInt, -5, -1, 0, 1, 2, 3, 4, 5, 6, 7, 10, 1 << 32, 1<<32 + 1, math.MaxInt}
	for _, m := range oneOfEach() {
		for _, m.From = range numbers {
			for _, m.To = range numbers {
				wantRight(t, m, 0 <= m.From && m.From <= 5 && 0 <= m.To && m.To <= 5 && m.From != m.To)
			}
		}
	}
}

func TestRightEpochs(t *testing.T) {
	for _, epoch := range []int{math.MinInt, -1000000, -1, 0, 1, 2, 9, 10, 64, 65, 99999, 100000, 999999, 1000000, 1000001, 10000000, 1 << 32, 1<<32 + 1, math.MaxInt} {
		for _, m := range oneOfEach() {
			m.Epoch = epoch
			has := m.Kind == api.MDigest || m.Kind == api.MAck
			wantRight(t, m, epoch == 0 || has && 0 < epoch && epoch <= 1000000)
		}
	}
}

func TestRightKinds(t *testing.T) {
	bare := api.Msg{From: 1, To: 2}
	for _, kind := range []int{math.MinInt, -4, -1, 0, 1, 2, 3, 4, 5, 6, 10, 1<<32 + 4, math.MaxInt} {
		bare.Kind = kind
		wantRight(t, bare, kind == api.MDigest || kind == api.MPosts || kind == api.MAck)
		for _, m := range oneOfEach() {
			other := m
			other.Kind = kind
			wantRight(t, other, kind == m.Kind || m.Kind == api.MAck && kind == api.MDigest)
		}
	}
	wantRight(t, api.Msg{}, false)
}

// TestRightHas: what a kind does not have is its zero value, each of the
// policy's parts, too; empty lists are as none.
func TestRightHas(t *testing.T) {
	one := []string{"a"}
	for _, c := range []struct {
		do   func(m *api.Msg)
		kind int // it has that; 0: none that lacks it may
	}{
		{func(m *api.Msg) { m.IDs = []string{"a"} }, api.MDigest},
		{func(m *api.Msg) { m.IDs = []string{""} }, 0},
		{func(m *api.Msg) { m.Posts = []api.Post{{ID: "a", Raw: "x"}} }, api.MPosts},
		{func(m *api.Msg) { m.Posts = []api.Post{{ID: "a"}} }, api.MPosts},
		{func(m *api.Msg) { m.Posts = []api.Post{{}} }, 0},
		{func(m *api.Msg) { m.Policy = least() }, api.MPolicy},
		{func(m *api.Msg) { m.Policy = full() }, api.MPolicy},
		{func(m *api.Msg) { m.Policy = api.Policy{Epoch: 1} }, 0},
		{func(m *api.Msg) { m.Policy = api.Policy{Depth: 1} }, 0},
		{func(m *api.Msg) { m.Policy = api.Policy{Nodes: -1} }, 0},
		{func(m *api.Msg) { m.Policy = api.Policy{Bytes: 1} }, 0},
		{func(m *api.Msg) { m.Policy = api.Policy{Elems: one} }, 0},
		{func(m *api.Msg) { m.Policy = api.Policy{Attrs: one} }, 0},
		{func(m *api.Msg) { m.Policy = api.Policy{Schemes: one} }, 0},
		{func(m *api.Msg) { m.Policy = api.Policy{Classes: one} }, 0},
		{func(m *api.Msg) { m.Policy = api.Policy{Props: []string{""}} }, 0},
	} {
		for _, m := range oneOfEach() {
			wantRight(t, with(m, c.do), m.Kind == c.kind)
		}
	}
	for _, m := range oneOfEach() {
		m = with(m, func(m *api.Msg) {
			if len(m.IDs) == 0 {
				m.IDs = []string{}
			}
			if len(m.Posts) == 0 {
				m.Posts = []api.Post{}
			}
			p := &m.Policy
			if len(p.Elems) == 0 {
				p.Elems, p.Attrs, p.Schemes, p.Classes, p.Props = []string{}, []string{}, []string{}, []string{}, []string{}
			}
		})
		wantRight(t, m, true)
	}
}

// TestRightIDs: of digests and of posts, how many IDs there are, that they rise,
// and how long they are.
func TestRightIDs(t *testing.T) {
	want := func(may bool, ids ...string) {
		t.Helper()
		wantRight(t, api.Msg{Kind: api.MDigest, From: 1, To: 2, Epoch: 1, IDs: ids}, may)
		wantRight(t, api.Msg{Kind: api.MPosts, From: 1, To: 2, Posts: postsOf(ids...)}, may)
	}
	for _, n := range []int{0, 1, 2, 3, 9, 10, 63, 64, 65, 66, 128, 1000} {
		want(n <= 64, numbered(n)...)
	}
	for n := range 40 {
		want(1 <= n && n <= 16, strings.Repeat("x", n))
		want(1 <= n && n <= 16, "a", strings.Repeat("x", n))
		want(1 <= n && n <= 16, strings.Repeat("x", n), "y")
	}
	// Bytes count, not characters.
	want(true, strings.Repeat("é", 8))
	want(false, strings.Repeat("é", 9))
	all := numbered(64)
	for i := range all[1:] {
		turned := slices.Clone(all)
		turned[i], turned[i+1] = turned[i+1], turned[i]
		want(false, turned...)
		twice := slices.Clone(all)
		twice[i] = twice[i+1]
		want(false, twice...)
		for _, id := range []string{"", strings.Repeat("0", 17)} {
			wrong := slices.Clone(all)
			wrong[i] = id
			want(false, wrong...)
		}
	}
	want(false, "a", "a")
	want(false, "b", "a")
	want(false, "a", "c", "b")
	want(false, "", "a")
	want(false, "a", "")
	want(true, "a", "a\x00", "a0", "aa", "b")
	want(false, "a\x00", "a")
	want(false, "a2", "a10")
	// Any bytes may be an ID's.
	want(true, "\x00", "\n", " ", ",", ":", "A", "a b", "é", "\xff", "\xff\xfe")
	for b := range 256 {
		want(true, string([]byte{byte(b)}))
	}
}

func TestRightRaw(t *testing.T) {
	for _, n := range []int{0, 1, 9, 10, 99, 100, 999, 1000, 1999, 2000, 2001, 2002, 20000} {
		raw := strings.Repeat("\xc3", n)
		for at := range 3 {
			m := api.Msg{Kind: api.MPosts, From: 1, To: 2, Posts: postsOf("a", "b", "c")}
			m.Posts[at].Raw = raw
			wantRight(t, m, n <= 2000)
		}
	}
}

func TestRightPolicies(t *testing.T) {
	for _, c := range []struct {
		do   func(p *api.Policy)
		want bool
	}{
		{func(p *api.Policy) {}, true},
		{func(p *api.Policy) { p.Epoch = 1000000 }, true},
		{func(p *api.Policy) { p.Epoch = 1000001 }, false},
		{func(p *api.Policy) { p.Epoch = 0 }, false},
		{func(p *api.Policy) { *p = api.Policy{} }, false},
		{func(p *api.Policy) { p.Elems = []string{"script"} }, false},
		{func(p *api.Policy) { p.Elems = []string{"b", "a"} }, false},
		{func(p *api.Policy) { p.Attrs = []string{"*.onclick"} }, false},
		{func(p *api.Policy) { p.Schemes = []string{"data"} }, false},
		{func(p *api.Policy) { p.Depth = 65 }, false},
		{func(p *api.Policy) { p.Bytes = 16385 }, false},
	} {
		m := api.Msg{Kind: api.MPolicy, From: 1, To: 2, Policy: full()}
		c.do(&m.Policy)
		wantRight(t, m, c.want)
		if got := policy.Right(m.Policy); got != c.want {
			t.Errorf("policy.Right(%v) is %v", m.Policy, got)
		}
	}
}

func wantFault(t *testing.T, s string, want api.Errno) {
	t.Helper()
	if m, e := Decode(s); e != want || !same(m, api.Msg{}) {
		t.Errorf("Decode(%.100q) is %.200v, %v, not %v", s, m, e, want)
	}
}

// TestDecodeShort: beginnings of fields, alone, and behind fields, of a message
// or of none.
func TestDecodeShort(t *testing.T) {
	for _, s := range []string{
		"0", "1", "9", "10", "123456", "999999",
		"0:", "1:", "1:4", "1:,", "1::", "2:", "2:x", "2:x,", "2:,,", "2:ab", "10:", "10:123456789", "10:1234567890", "3:1:x", "6:1:x,", "999999:", "999999:x", "100000:" + strings.Repeat("x", 99999), "100000:" + strings.Repeat("x", 100000), "999999:" + strings.Repeat(",", 999999),
	} {
		for _, ahead := range []string{
			"", "0:,", "1:4,", "1:x,", "1:4,1:1,", "1:4,1:1,1:0,", "1:4,1:1,1:1,1:2,", "1:4,1:1,1:0,1:2,", "1:4,1:1,1:0,1:2,1:x,", "1:1,1:1,1:2,1:0,1:2,1:a,", "1:1,1:1,1:2,1:0,1:2,1:b,", "1:1,1:1,1:2,1:0,2:02,1:a,", "1:9,1:9,1:9,7:9999999,",
			"3:x,y,", "0:,0:,0:,0:,0:,0:,0:,0:,0:,", "2:04,", "1:3,1:0,1:1,1:0,19:" + leastText + ",",
		} {
			wantFault(t, ahead+s, api.ErrShort)
		}
	}
	// All beginnings of messages' texts but those that end with a field.
	for _, m := range oneOfEach() {
		s, _ := Encode(m)
		ends := endsBy(s)
		for n := range len(s) {
			want := api.ErrShort
			if slices.Contains(ends, n) {
				want = api.ErrForm
			}
			wantFault(t, s[:n], want)
		}
	}
}

// TestDecodeForm: texts that neither are a message's nor end within a field.
func TestDecodeForm(t *testing.T) {
	wantFault(t, "", api.ErrForm)
	for _, s := range []string{
		"x", ",", ":", " ", "-", "+", "\x00", "\xff", "\n",
		"1:4;", "1:4 ", "1:4\x00", "1:4,x", "1:4,,", "1:4,:", "1:4, ", "1:4,\n", "1:44", "1:44,", "2:4,,x", "0:x", "0:x,", "0::", "1:4:", "1 :4,", " 1:4,", "1;4,", "1,4,", "1x", "1x:", "x1:4,", "1.0:4,",
		// Digits that are no length's.
		"00", "01", "01:", "01:4", "01:4,", "00:", "00:,", "000", "010", "0001:x,", "-1", "-1:", "-0:,", "+1", "+1:", "+1:4,", "1_0:", "0x1:4,", "1e1:", "１", "１:", "١:x", "1\x00:x",
		// The beginning of a field has at most 6 digits.
		"1000000", "1234567", "9999999", "1000000:", "1000000:x", "1234567:x", "99999999999999999999", "99999999999999999999:", "18446744073709551617:4,", "9223372036854775808:", "-9223372036854775807:", "9223372036854775807:", "9223372036854775807:x,", "4294967297:4,", "0000001", "0123456",
		"1000000:" + strings.Repeat("x", 1000000), strings.Repeat("1", 1000), strings.Repeat("0", 1000),
	} {
		for _, ahead := range []string{"", "1:4,", "0:,", "1:x,", "1:4,1:1,1:0,1:2,", "1:1,1:1,1:2,1:0,1:1,1:a,"} {
			wantFault(t, ahead+s, api.ErrForm)
		}
	}
}

// TestDecodeFields: whole fields that are no message's.
func TestDecodeFields(t *testing.T) {
	for _, s := range []string{
		"1:4,", "1:4,1:1,", "1:4,1:1,1:0,", "0:,0:,0:,0:,", "1:4,1:1,1:0,0:,", "0:,1:1,1:0,1:2,", "1:4,0:,1:0,1:2,", "1:4,1:1,0:,1:2,",
		"1:4,1:1,1:1,1:2,", "1:4,1:0,1:0,1:2,", "1:4,1:6,1:0,1:2,", "1:4,1:1,1:6,1:2,", "1:4,1:1,1:0,7:1000001,", "1:4,1:1,1:0,2:-1,", "1:0,1:1,1:0,1:2,", "1:5,1:1,1:0,1:2,", "1:4,1:1,1:0,1:2,0:,", "1:4,1:1,1:0,1:2,1:x,", "1:4,1:1,1:0,1:2,1:0,", "1:4,1:1,1:0,1:2,1:4,1:1,1:0,1:2,",
		"1:1,1:1,1:2,1:0,", "1:1,1:1,1:2,1:0,0:,", "1:1,1:1,1:2,1:0,1:1,", "1:1,1:1,1:2,1:0,1:0,1:a,", "1:1,1:1,1:2,1:0,1:2,1:a,", "1:1,1:1,1:2,1:0,1:1,1:a,1:b,", "1:1,1:1,1:2,1:0,1:2,1:b,1:a,", "1:1,1:1,1:2,1:0,1:2,1:a,1:a,", "1:1,1:1,1:2,1:0,1:1,0:,", "1:1,1:1,1:2,1:0,1:1,17:abcdefghijklmnopq,", "1:1,1:1,1:2,1:0,2:-1,", "1:1,1:1,1:2,1:0,2:-1,1:a,", "1:1,1:1,1:2,1:0,1:a,", "1:1,1:1,1:2,1:0,19:9223372036854775807,1:a,", "1:1,1:1,1:2,1:0,20:99999999999999999999,1:a,",
		"1:2,1:2,1:1,1:1,1:0,", "1:2,1:2,1:1,1:0,", "1:2,1:2,1:1,1:0,1:1,", "1:2,1:2,1:1,1:0,1:1,1:a,", "1:2,1:2,1:1,1:0,1:1,1:a,1:x,1:b,", "1:2,1:2,1:1,1:0,1:1,1:a,1:x,1:b,1:y,", "1:2,1:2,1:1,1:0,1:2,1:a,1:x,", "1:2,1:2,1:1,1:0,1:2,1:a,1:x,1:b,", "1:2,1:2,1:1,1:0,1:2,1:b,1:x,1:a,1:y,", "1:2,1:2,1:1,1:0,1:2,1:a,1:x,1:a,1:x,", "1:2,1:2,1:1,1:0,1:1,0:,1:x,", "1:2,1:2,1:1,1:0,1:1,1:a,2001:" + strings.Repeat("x", 2001) + ",",
		"1:3,1:0,1:1,1:0,", "1:3,1:0,1:1,1:0,0:,", "1:3,1:0,1:1,1:0,18:epoch 1\ncaps 1 1 1,", "1:3,1:0,1:1,1:0,19:epoch 0\ncaps 1 1 1\n,", "1:3,1:0,1:1,1:0,20:epoch 01\ncaps 1 1 1\n,", "1:3,1:0,1:1,1:1,19:" + leastText + ",", "1:3,1:0,1:1,1:0,19:" + leastText + ",0:,", "1:3,1:0,1:1,1:0,38:" + leastText + leastText + ",", "1:3,1:0,1:1,1:0,31:epoch 1\nelem script\ncaps 1 1 1\n,",
	} {
		wantFault(t, s, api.ErrForm)
	}
	// How many there are, with as many behind.
	for _, n := range []int{0, 1, 63, 64, 65, 66, 100} {
		ids, posts := "", ""
		for _, id := range numbered(n) {
			ids, posts = ids+"4:"+id+",", posts+"4:"+id+",0:,"
		}
		many := fmt.Sprintf("%d:%d,", len(fmt.Sprint(n)), n)
		for s, kind := range map[string]int{"1:1,1:1,1:2,1:0," + many + ids: api.MDigest, "1:2,1:1,1:2,1:0," + many + posts: api.MPosts} {
			if n > 64 {
				wantFault(t, s, api.ErrForm)
			} else if m, e := Decode(s); e != api.OK || m.Kind != kind || len(m.IDs)+len(m.Posts) != n {
				t.Errorf("%d of kind %d: %v, %v", n, kind, m, e)
			}
		}
	}
}

// TestDecodeDigits: a number's field has its decimal digits, in each place.
func TestDecodeDigits(t *testing.T) {
	for _, c := range []struct {
		digits string
		is     bool
	}{
		{"1", true},
		{"", false}, {"01", false}, {"001", false}, {"+1", false}, {" 1", false}, {"1 ", false}, {"1.0", false}, {"1.", false}, {"1e0", false}, {"0x1", false}, {"0b1", false}, {"1_", false}, {"\x001", false}, {"1\n", false}, {"１", false}, {"١", false}, {"18446744073709551617", false}, {"4294967297", false}, {strings.Repeat("0", 1000) + "1", false},
	} {
		field := fieldBy(c.digits)
		for _, s := range []string{
			field + "1:1,1:0,1:1,1:1,1:a,", "1:4," + field + "1:0,1:1,", "1:4,1:0," + field + "1:1,", "1:4,1:1,1:0," + field, "1:1,1:0,1:1," + field + "1:1,1:a,",
			"1:1,1:0,1:1,1:0," + field + "1:a,", "1:2,1:0,1:1,1:0," + field + "1:a,1:x,",
		} {
			if m, e := Decode(s); (e == api.OK) != c.is || !c.is && (e != api.ErrForm || !same(m, api.Msg{})) {
				t.Errorf("Decode(%.100q) is %v, %v", s, m, e)
			}
		}
	}
}

// TestLargest: as many posts as there may be, of as many bytes, and a policy
// with all lists full, of words as long as may be.
func TestLargest(t *testing.T) {
	m := api.Msg{Kind: api.MPosts, From: 5, To: 4}
	d := api.Msg{Kind: api.MDigest, From: 5, To: 4, Epoch: 1000000}
	for _, id := range numbered(64) {
		id += "abcdefghijkl"
		m.Posts = append(m.Posts, api.Post{ID: id, Raw: strings.Repeat(id, 125)})
		d.IDs = append(d.IDs, id)
	}
	wantRight(t, m, true)
	wantRight(t, d, true)
	var words []string
	p := api.Policy{Epoch: 1000000, Depth: 64, Nodes: 2000, Bytes: 16384}
	for _, s := range numbered(64) {
		s = "a" + s + strings.Repeat("x", 27)
		words = append(words, s)
		p.Attrs = append(p.Attrs, s+"."+s)
	}
	p.Elems, p.Schemes, p.Classes, p.Props = words, words, words, words
	wantRight(t, api.Msg{Kind: api.MPolicy, From: 5, To: 4, Policy: p}, true)
}

func TestLong(t *testing.T) {
	const many = 1 << 20
	x := strings.Repeat("x", many)
	wantFault(t, x, api.ErrForm)
	wantFault(t, strings.Repeat("1", many), api.ErrForm)
	wantFault(t, strings.Repeat("1", many)+":", api.ErrForm)
	wantFault(t, strings.Repeat(":", many), api.ErrForm)
	wantFault(t, strings.Repeat(",", many), api.ErrForm)
	wantFault(t, strings.Repeat("0:,", many), api.ErrForm)
	wantFault(t, strings.Repeat("0:,", many)+"0:", api.ErrShort)
	wantFault(t, strings.Repeat("0:,", many)+"0:x", api.ErrForm)
	wantFault(t, strings.Repeat("1:1,", many), api.ErrForm)
	wantFault(t, strings.Repeat("1:1,", many)+"1", api.ErrShort)
	wantFault(t, strings.Repeat("1:3,1:0,1:1,1:0,19:"+leastText+",", 1000), api.ErrForm)
	// A field is one however long its text is.
	for _, ahead := range []string{"", "1:1,1:0,1:1,1:0,1:1,", "1:2,1:0,1:1,1:0,1:1,1:a,", "1:3,1:0,1:1,1:0,"} {
		wantFault(t, ahead+fieldBy(x), api.ErrForm)
		wantFault(t, ahead+fieldBy(x)+"1:", api.ErrShort)
		wantFault(t, ahead+fieldBy(x)+"x", api.ErrForm)
	}
	wantRight(t, api.Msg{Kind: api.MDigest, From: 1, To: 2, IDs: slices.Repeat([]string{"a"}, 1<<16)}, false)
	wantRight(t, api.Msg{Kind: api.MPosts, From: 1, To: 2, Posts: slices.Repeat(postsOf("a"), 1<<16)}, false)
	wantRight(t, api.Msg{Kind: api.MPosts, From: 1, To: 2, Posts: []api.Post{{ID: "a", Raw: x}}}, false)
	wantRight(t, api.Msg{Kind: api.MDigest, From: 1, To: 2, IDs: []string{x}}, false)
}

// TestInputsStay: messages are the same behind a call, and so is what stands
// behind their lists in their arrays.
func TestInputsStay(t *testing.T) {
	ids, raws := []string{"b", "c", "a", ""}, []api.Post{{ID: "b", Raw: "x"}, {ID: "a", Raw: "y"}, {}}
	props := []string{"x", "y", "a"}
	p := least()
	p.Props = props[:2]
	ms := []api.Msg{
		{Kind: api.MDigest, From: 1, To: 2, IDs: ids[:2]}, {Kind: api.MDigest, From: 1, To: 2, IDs: ids[:3]},
		{Kind: api.MPosts, From: 1, To: 2, Posts: raws[:1]}, {Kind: api.MPosts, From: 1, To: 2, Posts: raws[:2]},
		{Kind: api.MPolicy, From: 1, To: 2, Policy: p}, {Kind: api.MPolicy, From: 1, To: 1, Policy: p},
	}
	for range 2 {
		for i, m := range ms {
			if Right(m) != (i%2 == 0) {
				t.Errorf("Right of the number %d", i)
			}
			if s, e := Encode(m); (e == api.OK) != (i%2 == 0) || (s == "") != (e != api.OK) {
				t.Errorf("Encode of the number %d: %q, %v", i, s, e)
			}
		}
	}
	if !slices.Equal(ids, []string{"b", "c", "a", ""}) || !slices.Equal(raws, []api.Post{{ID: "b", Raw: "x"}, {ID: "a", Raw: "y"}, {}}) || !slices.Equal(props, []string{"x", "y", "a"}) {
		t.Errorf("a message is changed: %q, %q, %q", ids, raws, props)
	}
}

// TestAnswersAreNew: what is told shares no byte with what was given, and no
// list with what was told before.
func TestAnswersAreNew(t *testing.T) {
	for _, want := range oneOfEach() {
		s, _ := Encode(want)
		b := []byte(s)
		m, e := Decode(unsafe.String(&b[0], len(b)))
		for i := range b {
			b[i] = 'z'
		}
		if e != api.OK || !same(m, want) {
			t.Errorf("a message that was told shares bytes: %v, %v", m, e)
		}
		n, _ := Decode(s)
		for _, list := range [][]string{n.IDs, n.Policy.Elems, n.Policy.Attrs, n.Policy.Schemes, n.Policy.Classes, n.Policy.Props} {
			for i := range list {
				list[i] = "changed"
			}
			_ = append(list, "changed")
		}
		for i := range n.Posts {
			n.Posts[i] = api.Post{ID: "changed"}
		}
		if again, e := Decode(s); e != api.OK || !same(again, want) || !same(m, want) {
			t.Errorf("a message that was told is shared: %v, %v", again, m)
		}
	}
	c := []byte("abc")
	text := unsafe.String(&c[0], len(c))
	s, _ := Encode(api.Msg{Kind: api.MDigest, From: 1, To: 2, IDs: []string{text}})
	r, _ := Encode(api.Msg{Kind: api.MPosts, From: 1, To: 2, Posts: []api.Post{{ID: text, Raw: text}}})
	c[0] = 'z'
	if s != "1:1,1:1,1:2,1:0,1:1,3:abc," || r != "1:2,1:1,1:2,1:0,1:1,3:abc,3:abc," {
		t.Errorf("a text that was told shares bytes: %q, %q", s, r)
	}
}
