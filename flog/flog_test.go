package flog

import (
	"bytes"
	"math"
	"slices"
	"strings"
	"testing"

	"verso/api"
	"verso/dev"
)

// The tests of ordinary calls, and of the edges that the chapter names, say
// what they want one by one. Those in model_test.go hold the package against
// the chapter's words, at many bytes and many lists of calls.

// want asks what a call answered.
func want(t *testing.T, what string, got, e api.Errno) {
	t.Helper()
	if got != e {
		t.Errorf("%s answers %v, not %v", what, got, e)
	}
}

// wantBytes asks for a device's bytes, and whether its power is gone.
func wantBytes(t *testing.T, d *dev.Dev, all string, off bool) {
	t.Helper()
	if got := d.Bytes(); string(got) != all {
		t.Errorf("the bytes are %.40q (%d), not %.40q (%d)", got, len(got), all, len(all))
	}
	if d.Off() != off {
		t.Errorf("Off is %v", d.Off())
	}
}

// devOf is a device with bytes that last.
func devOf(t *testing.T, all string) *dev.Dev {
	t.Helper()
	d := dev.New()
	want(t, "dev.Append", d.Append([]byte(all)), api.OK)
	want(t, "dev.Sync", d.Sync(), api.OK)
	return d
}

// opened is a device's log, which tells these texts.
func opened(t *testing.T, d *dev.Dev, texts ...string) *Log {
	t.Helper()
	l, got, e := Open(d)
	if e != api.OK || l == nil || !slices.Equal(got, texts) {
		t.Fatalf("Open: %v, %d texts, %v: %.80q, not %.80q", l != nil, len(got), e, got, texts)
	}
	if l.Size() != len(d.Bytes()) {
		t.Errorf("Size is %d, not %d", l.Size(), len(d.Bytes()))
	}
	return l
}

// notOpened asks that Open answers nothing, and ErrDead.
func notOpened(t *testing.T, d *dev.Dev) {
	t.Helper()
	if l, texts, e := Open(d); l != nil || len(texts) != 0 || e != api.ErrDead {
		t.Errorf("Open: %v, %.80q, %v", l != nil, texts, e)
	}
}

// appended are texts that are appended, one behind the other.
func appended(t *testing.T, l *Log, texts ...string) {
	t.Helper()
	for _, s := range texts {
		want(t, "Append", l.Append(s), api.OK)
	}
}

func TestExamples(t *testing.T) {
	d := dev.New()
	appended(t, opened(t, d), "ab")
	wantBytes(t, d, "\x00\x00\x02ab", false)

	d = devOf(t, "\x00\x00\x01x\x00\x00\x05y")
	opened(t, d, "x")
	wantBytes(t, d, "\x00\x00\x01x", false)
}

// P13.1

func TestOpenNone(t *testing.T) {
	d := dev.New()
	l := opened(t, d)
	if l.Size() != 0 {
		t.Errorf("Size is %d", l.Size())
	}
	wantBytes(t, d, "", false)
}

// TestOpenOff: while the power is gone there is nothing, whatever the bytes are,
// and they stay.
func TestOpenOff(t *testing.T) {
	for _, all := range []string{"", "\x00\x00\x01x", "\x00\x00\x01x\x00", "\xff\xff\xff", "\x00"} {
		d := devOf(t, all)
		d.Arm(0)
		want(t, "dev.Sync", d.Sync(), api.ErrDead)
		for range 3 {
			notOpened(t, d)
			wantBytes(t, d, all, true)
		}
	}
}

// TestOpenNil: there is no power where there is no device.
func TestOpenNil(t *testing.T) { notOpened(t, nil) }

func TestOpenFrames(t *testing.T) {
	long := strings.Repeat("w", 300)
	for _, c := range []struct {
		all   string
		texts []string
	}{
		{"\x00\x00\x00", []string{""}},
		{"\x00\x00\x00\x00\x00\x00", []string{"", ""}},
		{"\x00\x00\x01\x00", []string{"\x00"}},
		{"\x00\x00\x03\x00\x00\x00", []string{"\x00\x00\x00"}},
		{"\x00\x00\x02ab\x00\x00\x00\x00\x00\x01c", []string{"ab", "", "c"}},
		{"\x00\x00\x01b\x00\x00\x01a\x00\x00\x01b", []string{"b", "a", "b"}},
		{"\x00\x00\x04\xff\x80\r\n", []string{"\xff\x80\r\n"}},
		{"\x00\x01\x2c" + long + "\x00\x00\x01y", []string{long, "y"}},
	} {
		d := devOf(t, c.all)
		// As long as all are frames, nothing is written: the power can't go.
		d.Arm(0)
		opened(t, d, c.texts...)
		wantBytes(t, d, c.all, false)
		d.Arm(-1)
		opened(t, d, c.texts...)
	}
}

// TestOpenTrims: whatever is no whole frame, or is too long, ends them, however
// right what stands behind it is.
func TestOpenTrims(t *testing.T) {
	two := "\x00\x00\x02ab\x00\x00\x00"
	for _, front := range []struct {
		all   string
		texts []string
	}{{"", nil}, {two, []string{"ab", ""}}} {
		for _, rest := range []string{
			"\x00", "\x00\x00", "x", "xy",
			"\x00\x00\x01", "\x00\x00\x02a", "\x00\x00\x09\x00\x00\x01x",
			"\x00\x01\x00" + strings.Repeat("w", 255),
			"\x01\x00\x00" + strings.Repeat("w", 255),
			"\x00\x4e\x20" + strings.Repeat("w", 19999),
			"\x00\x4e\x21" + strings.Repeat("w", 20001),
			"\x00\x4e\x21" + strings.Repeat("w", 20000),
			"\x00\x4e\x21", "\xff\xff\xff",
			"\x00\x9c\x40" + strings.Repeat("w", 40000),
			"\x00\xff\xff\x00\x00\x01x",
			"\x01\x00\x00\x00\x00\x01x", "\x80\x00\x00", "\x01\x00\x01y",
		} {
			d := devOf(t, front.all+rest)
			opened(t, d, front.texts...)
			wantBytes(t, d, front.all, false)
			// What is left does not wait, and is frames.
			d.Restart(0)
			wantBytes(t, d, front.all, false)
			d.Arm(0)
			opened(t, d, front.texts...)
		}
	}
}

// TestOpenMost: a frame of 20000 bytes is one, a frame of 20001 is none.
func TestOpenMost(t *testing.T) {
	most := strings.Repeat("m", 20000)
	d := devOf(t, "\x00\x4e\x20"+most+"\x00\x00\x01y")
	opened(t, d, most, "y")
	wantBytes(t, d, "\x00\x4e\x20"+most+"\x00\x00\x01y", false)
	d = devOf(t, "\x00\x00\x01y\x00\x4e\x21"+most+"m\x00\x00\x01y")
	opened(t, d, "y")
	wantBytes(t, d, "\x00\x00\x01y", false)
}

// TestOpenMany: as many texts as a device has room for.
func TestOpenMany(t *testing.T) {
	d := devOf(t, strings.Repeat("\x00", api.MostDisk))
	opened(t, d, make([]string, api.MostDisk/3)...)
	d = devOf(t, strings.Repeat("\x00", api.MostDisk-1))
	opened(t, d, make([]string, api.MostDisk/3-1)...)
	wantBytes(t, d, strings.Repeat("\x00", api.MostDisk-3), false)
}

// TestOpenArmed: the power may go at the Trim, and nothing is told then; the
// bytes stay, and the next Open trims them.
func TestOpenArmed(t *testing.T) {
	all := "\x00\x00\x01x\x00\x00\x05y"
	d := devOf(t, all)
	d.Arm(0)
	notOpened(t, d)
	wantBytes(t, d, all, true)
	notOpened(t, d)
	d.Restart(0)
	wantBytes(t, d, all, false)
	d.Arm(1)
	opened(t, d, "x")
	wantBytes(t, d, all[:4], false)
	// The Trim was one write, and Open makes no other.
	opened(t, d, "x")
	want(t, "dev.Sync", d.Sync(), api.ErrDead)
}

// TestOpenWaiting: bytes that wait are read as all others are.
func TestOpenWaiting(t *testing.T) {
	d := devOf(t, "\x00\x00\x01x\x00\x00")
	want(t, "dev.Append", d.Append([]byte("\x02yz\x00\x00\x01w")), api.OK)
	opened(t, d, "x", "yz", "w")
	// Open syncs nothing.
	d.Restart(3)
	opened(t, d, "x", "yz")
	d = devOf(t, "\x00\x00\x01x\x00\x00")
	want(t, "dev.Append", d.Append([]byte("\x02y")), api.OK)
	opened(t, d, "x")
	wantBytes(t, d, "\x00\x00\x01x", false)
}

// TestOpenTellsItsOwn: what is told is the caller's, and what is told again is
// not what became of it.
func TestOpenTellsItsOwn(t *testing.T) {
	d := devOf(t, "\x00\x00\x02ab\x00\x00\x01c")
	l, first, _ := Open(d)
	_, second, _ := Open(d)
	first[0] = "changed"
	first = append(first[:1], "more")
	if !slices.Equal(first, []string{"changed", "more"}) || !slices.Equal(second, []string{"ab", "c"}) {
		t.Errorf("two answers are %q and %q", first, second)
	}
	want(t, "dev.Trim", d.Trim(0), api.OK)
	appended(t, l, "xyzuvw")
	if !slices.Equal(second, []string{"ab", "c"}) {
		t.Errorf("later calls changed what was told: %q", second)
	}
	opened(t, d, "xyzuvw")
}

// TestTwoDevices: what befalls one befalls no other.
func TestTwoDevices(t *testing.T) {
	one, other := dev.New(), dev.New()
	l, k := opened(t, one), opened(t, other)
	appended(t, l, "a", "b")
	one.Arm(0)
	want(t, "Append", l.Append("c"), api.ErrDead)
	appended(t, k, "d")
	if l.Size() != 8 || k.Size() != 4 {
		t.Errorf("the sizes are %d and %d", l.Size(), k.Size())
	}
	opened(t, other, "d")
	notOpened(t, one)
}

// P13.2

func TestAppend(t *testing.T) {
	texts := []string{"ab", "", "c", "\x00\xff\r\n", "\x00\x00\x01x", strings.Repeat("d", 255), strings.Repeat("e", 256), strings.Repeat("f", 511), "€"}
	heads := []string{"\x00\x00\x02", "\x00\x00\x00", "\x00\x00\x01", "\x00\x00\x04", "\x00\x00\x04", "\x00\x00\xff", "\x00\x01\x00", "\x00\x01\xff", "\x00\x00\x03"}
	d := dev.New()
	l := opened(t, d)
	all := ""
	for i, s := range texts {
		want(t, "Append", l.Append(s), api.OK)
		all += heads[i] + s
		wantBytes(t, d, all, false)
		if l.Size() != len(all) {
			t.Errorf("Size is %d, not %d", l.Size(), len(all))
		}
		// It is synced.
		d.Restart(0)
		wantBytes(t, d, all, false)
		l = opened(t, d, texts[:i+1]...)
	}
}

func TestAppendMost(t *testing.T) {
	most := strings.Repeat("m", 20000)
	d := dev.New()
	l := opened(t, d)
	for _, many := range []int{20001, 20002, 60000, 60001, 1 << 16, 1<<24 - 1, 1 << 24, 1<<24 + 1} {
		want(t, "Append of too long a text", l.Append(strings.Repeat("m", many)), api.ErrLarge)
		wantBytes(t, d, "", false)
	}
	appended(t, l, most, most[:19999])
	wantBytes(t, d, "\x00\x4e\x20"+most+"\x00\x4e\x1f"+most[:19999], false)
	opened(t, d, most, most[:19999])
}

// TestAppendLargeFirst: ErrLarge is named first, and nothing is written then.
func TestAppendLargeFirst(t *testing.T) {
	large := strings.Repeat("m", 20001)
	d := dev.New()
	l := opened(t, d)
	d.Arm(2)
	for range 5 {
		want(t, "Append of too long a text", l.Append(large), api.ErrLarge)
	}
	appended(t, l, "ab")
	want(t, "Append of too long a text", l.Append(large), api.ErrLarge)
	wantBytes(t, d, "\x00\x00\x02ab", false)
	want(t, "Append", l.Append("c"), api.ErrDead)
	want(t, "Append of too long a text", l.Append(large), api.ErrLarge)
	wantBytes(t, d, "\x00\x00\x02ab", true)

	d = devOf(t, strings.Repeat("\x00", api.MostDisk))
	want(t, "Append of too long a text", opened(t, d, make([]string, 20000)...).Append(large), api.ErrLarge)
}

func TestAppendFull(t *testing.T) {
	most := strings.Repeat("m", 20000)
	d := dev.New()
	l := opened(t, d)
	appended(t, l, most, most)
	// 60000 less twice 20003, and less a frame's head.
	want(t, "Append of 1 byte too many", l.Append(most[:19992]), api.ErrFull)
	want(t, "Append of more", l.Append(most), api.ErrFull)
	if l.Size() != 40006 || d.Off() {
		t.Errorf("Size is %d, Off is %v", l.Size(), d.Off())
	}
	opened(t, d, most, most)
	l = opened(t, d, most, most)
	appended(t, l, most[:19991])
	if l.Size() != 60000 {
		t.Errorf("Size is %d", l.Size())
	}
	want(t, "Append of none", l.Append(""), api.ErrFull)
	want(t, "Append of one", l.Append("x"), api.ErrFull)
	opened(t, d, most, most, most[:19991])
	d.Restart(0)
	opened(t, d, most, most, most[:19991])
}

// TestAppendFullHead: there must be room for a frame's head, too.
func TestAppendFullHead(t *testing.T) {
	for room := range 6 {
		d := dev.New()
		l := opened(t, d)
		for range 3 {
			appended(t, l, strings.Repeat("w", 19900))
		}
		appended(t, l, strings.Repeat("w", 60000-3*19903-3-room))
		for many := range 5 {
			e := api.ErrFull
			if many+3 <= room {
				e = api.OK
			}
			size := l.Size()
			want(t, "Append", l.Append("abcde"[:many]), e)
			if e == api.OK {
				room -= many + 3
				size += many + 3
			}
			if l.Size() != size {
				t.Errorf("Size is %d, not %d", l.Size(), size)
			}
		}
	}
}

// TestAppendFullIsNoWrite: where there is no room, the power does not go.
func TestAppendFullIsNoWrite(t *testing.T) {
	d := devOf(t, strings.Repeat("\x00", api.MostDisk-3))
	l := opened(t, d, make([]string, 19999)...)
	d.Arm(2)
	for range 5 {
		want(t, "Append of one", l.Append("x"), api.ErrFull)
	}
	appended(t, l, "")
	want(t, "Append of none", l.Append(""), api.ErrFull)
	if d.Off() {
		t.Error("the power is gone")
	}
}

// TestAppendArmed: at the first write nothing of the frame is there; at the
// second it waits; behind both the text is there.
func TestAppendArmed(t *testing.T) {
	front, whole := "\x00\x00\x01a", "\x00\x00\x01a\x00\x00\x02bc"
	for _, c := range []struct {
		armed int
		e     api.Errno
		all   string
	}{{0, api.ErrDead, front}, {1, api.ErrDead, whole}, {2, api.OK, whole}, {-1, api.OK, whole}} {
		d := devOf(t, front)
		l := opened(t, d, "a")
		d.Arm(c.armed)
		want(t, "Append", l.Append("bc"), c.e)
		wantBytes(t, d, c.all, c.e != api.OK)
		if l.Size() != len(c.all) {
			t.Errorf("Size is %d, not %d", l.Size(), len(c.all))
		}
		if c.armed == 2 {
			want(t, "Append behind the last write", l.Append("d"), api.ErrDead)
		}
	}
}

// TestAppendTwoWrites: each Append is two writes, and no more.
func TestAppendTwoWrites(t *testing.T) {
	for many := range 5 {
		d := dev.New()
		l := opened(t, d)
		d.Arm(2 * many)
		for range many {
			appended(t, l, "x")
		}
		all := string(d.Bytes())
		want(t, "Append", l.Append("x"), api.ErrDead)
		wantBytes(t, d, all, true)
	}
}

// TestAppendOff: while the power is gone each Append answers ErrDead, and does
// nothing.
func TestAppendOff(t *testing.T) {
	d := devOf(t, "\x00\x00\x01a")
	l := opened(t, d, "a")
	d.Arm(0)
	for _, s := range []string{"b", "", "cd", strings.Repeat("m", 20000), "b"} {
		want(t, "Append", l.Append(s), api.ErrDead)
		wantBytes(t, d, "\x00\x00\x01a", true)
	}
	// Also one for which there would be no room.
	d = devOf(t, strings.Repeat("\x00", api.MostDisk))
	l = opened(t, d, make([]string, 20000)...)
	d.Arm(0)
	want(t, "dev.Sync", d.Sync(), api.ErrDead)
	want(t, "Append", l.Append("x"), api.ErrDead)
}

// P13.3

// TestSize: it is the device's own number, whatever has become of that.
func TestSize(t *testing.T) {
	d := dev.New()
	l := opened(t, d)
	size := func(many int) {
		t.Helper()
		if l.Size() != many || len(d.Bytes()) != many {
			t.Errorf("Size is %d, and there are %d bytes, not %d", l.Size(), len(d.Bytes()), many)
		}
	}
	size(0)
	appended(t, l, "")
	size(3)
	appended(t, l, "abc")
	size(9)
	want(t, "Append", l.Append(strings.Repeat("m", 20001)), api.ErrLarge)
	size(9)
	d.Arm(1)
	want(t, "Append", l.Append("de"), api.ErrDead)
	size(14)
	want(t, "Append", l.Append("f"), api.ErrDead)
	size(14)
	d.Restart(2)
	size(11)
	l = opened(t, d, "", "abc")
	size(9)
	want(t, "dev.Append", d.Append([]byte("xyz")), api.OK)
	size(12)
	want(t, "dev.Trim", d.Trim(1), api.OK)
	size(1)
	l = opened(t, d)
	size(0)
}

// P13.4

// TestLosses: at whichever write the power goes, and whatever is kept, all texts
// are there that were answered for, and at most the one more that was not.
func TestLosses(t *testing.T) {
	texts := []string{"ab", "", "c", "\x00\x00\x00", "\x00", "defgh"}
	for armed := range 2*len(texts) + 2 {
		for _, keep := range []int{math.MinInt, -1, 0, 1, 2, 3, 4, 5, 6, 7, 8, 9, math.MaxInt} {
			d := dev.New()
			l := opened(t, d)
			d.Arm(armed)
			fine := 0
			for fine < len(texts) && l.Append(texts[fine]) == api.OK {
				fine++
			}
			if fine != min(armed/2, len(texts)) {
				t.Fatalf("armed by %d: %d texts", armed, fine)
			}
			d.Restart(keep)
			if armed%2 == 1 && fine < len(texts) && keep >= 3+len(texts[fine]) {
				fine++
			}
			l = opened(t, d, texts[:fine]...)
			opened(t, d, texts[:fine]...)
			l = opened(t, d, texts[:fine]...)
			appended(t, l, "more")
			opened(t, d, append(slices.Clone(texts[:fine]), "more")...)
		}
	}
}

// TestLossesWithinOpen: a loss at Open's own Trim loses no text, either.
func TestLossesWithinOpen(t *testing.T) {
	for keep := range 7 {
		d := dev.New()
		appended(t, opened(t, d), "ab", "c")
		l := opened(t, d, "ab", "c")
		d.Arm(1)
		want(t, "Append", l.Append("defg"), api.ErrDead)
		d.Restart(keep)
		for again := range 4 {
			d.Arm(0)
			if keep == 0 {
				opened(t, d, "ab", "c")
				break
			}
			notOpened(t, d)
			d.Restart(again)
		}
		d.Arm(-1)
		l = opened(t, d, "ab", "c")
		appended(t, l, "h")
		opened(t, d, "ab", "c", "h")
	}
}

// TestOpenedAgain: without a loss of power it tells the same, however often.
func TestOpenedAgain(t *testing.T) {
	d := devOf(t, "\x00\x00\x02ab\x00\x00\x00\x00\x00\x04cde")
	opened(t, d, "ab", "")
	all := d.Bytes()
	for range 5 {
		opened(t, d, "ab", "")
		if !bytes.Equal(d.Bytes(), all) {
			t.Errorf("Open changed the bytes to %q", d.Bytes())
		}
	}
}
