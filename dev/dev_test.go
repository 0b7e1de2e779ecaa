package dev

import (
	"bytes"
	"math"
	"strings"
	"testing"

	"verso/api"
)

// The tests of ordinary calls, and of the edges that the chapter names, say
// what they want one by one. Those in model_test.go hold the package against
// the chapter's words, at many lists of calls.

// someNumbers are those that a call with a number is asked with, wrong ones too.
var someNumbers = []int{math.MinInt, -1000, -2, -1, 0, 1, 2, 3, 4, 5, 6, 1000, api.MostDisk, api.MostDisk + 1, math.MaxInt - 1, math.MaxInt}

// want asks what a call answered.
func want(t *testing.T, what string, got, e api.Errno) {
	t.Helper()
	if got != e {
		t.Errorf("%s answers %v, not %v", what, got, e)
	}
}

// wantAll asks for a device's bytes, and whether its power is gone.
func wantAll(t *testing.T, d *Dev, all string, off bool) {
	t.Helper()
	if got := d.Bytes(); string(got) != all {
		t.Errorf("the bytes are %.40q (%d), not %.40q (%d)", got, len(got), all, len(all))
	}
	if d.Off() != off {
		t.Errorf("Off is %v", d.Off())
	}
}

// devOf is a device with bytes that last, and behind them bytes that wait.
func devOf(t *testing.T, lasts, waits string) *Dev {
	t.Helper()
	d := New()
	want(t, "Append", d.Append([]byte(lasts)), api.OK)
	want(t, "Sync", d.Sync(), api.OK)
	want(t, "Append", d.Append([]byte(waits)), api.OK)
	return d
}

// deadOf is one whose power is gone.
func deadOf(t *testing.T, lasts, waits string) *Dev {
	t.Helper()
	d := devOf(t, lasts, waits)
	d.Arm(0)
	want(t, "Sync of an armed one", d.Sync(), api.ErrDead)
	return d
}

// writes are the calls that count, each such that it would answer OK.
func writes() map[string]func(d *Dev) api.Errno {
	return map[string]func(d *Dev) api.Errno{
		"Append(xyz)": func(d *Dev) api.Errno { return d.Append([]byte("xyz")) },
		"Append(nil)": func(d *Dev) api.Errno { return d.Append(nil) },
		"Sync()":      func(d *Dev) api.Errno { return d.Sync() },
		"Trim(0)":     func(d *Dev) api.Errno { return d.Trim(0) },
		"Trim(all)":   func(d *Dev) api.Errno { return d.Trim(len(d.Bytes())) },
	}
}

func TestExamples(t *testing.T) {
	d := New()
	want(t, "Append", d.Append([]byte("abc")), api.OK)
	want(t, "Sync", d.Sync(), api.OK)
	want(t, "Append", d.Append([]byte("de")), api.OK)
	d.Restart(1)
	wantAll(t, d, "abcd", false)
	d.Arm(1)
	want(t, "Append", d.Append([]byte("x")), api.OK)
	want(t, "Sync", d.Sync(), api.ErrDead)
	wantAll(t, d, "abcdx", true)
}

// P12.1

func TestNew(t *testing.T) {
	wantAll(t, New(), "", false)
	for what, write := range writes() {
		want(t, what+" of a new one", write(New()), api.OK)
	}
	d := New()
	d.Restart(3)
	wantAll(t, d, "", false)
}

// TestNewOnes: what befalls one device befalls no other.
func TestNewOnes(t *testing.T) {
	d, other := New(), New()
	want(t, "Append", d.Append([]byte("abc")), api.OK)
	d.Arm(0)
	want(t, "Sync", d.Sync(), api.ErrDead)
	wantAll(t, other, "", false)
	want(t, "Append", other.Append([]byte("de")), api.OK)
	want(t, "Sync", other.Sync(), api.OK)
	wantAll(t, other, "de", false)
	wantAll(t, d, "abc", true)
	wantAll(t, New(), "", false)
}

// TestBytesWhileOff: all bytes are told, those that wait too.
func TestBytesWhileOff(t *testing.T) {
	d := deadOf(t, "abc", "de")
	for range 3 {
		wantAll(t, d, "abcde", true)
	}
}

func TestBytesOfAllKinds(t *testing.T) {
	var all []byte
	d := New()
	for i := range 256 {
		all = append(all, byte(i))
		want(t, "Append", d.Append([]byte{byte(i)}), api.OK)
	}
	wantAll(t, d, string(all), false)
	d.Restart(200)
	wantAll(t, d, string(all[:200]), false)
}

// TestCopies: what is handed in is neither changed nor kept, and what is told is
// the caller's own.
func TestCopies(t *testing.T) {
	d := New()
	in := []byte("abcdef")
	want(t, "Append", d.Append(in[:3]), api.OK)
	if string(in) != "abcdef" {
		t.Errorf("Append changed what it was handed: %q", in)
	}
	in[0] = 'X'
	wantAll(t, d, "abc", false)
	want(t, "Append", d.Append([]byte("gh")), api.OK)
	if string(in) != "Xbcdef" {
		t.Errorf("a later Append changed what was handed in: %q", in)
	}
	first, second := d.Bytes(), d.Bytes()
	first[1] = 'Y'
	if first = append(first, "ijk"...); string(first) != "aYcghijk" || string(second) != "abcgh" {
		t.Errorf("two answers are %q and %q", first, second)
	}
	wantAll(t, d, "abcgh", false)
	want(t, "Trim", d.Trim(1), api.OK)
	want(t, "Append", d.Append([]byte("mnopq")), api.OK)
	d.Restart(2)
	want(t, "Append", d.Append([]byte("rs")), api.OK)
	if string(second) != "abcgh" {
		t.Errorf("later calls changed what was told: %q", second)
	}
	wantAll(t, d, "amnrs", false)
	// What it told is as good a thing to append as any other.
	want(t, "Append", d.Append(d.Bytes()), api.OK)
	wantAll(t, d, "amnrsamnrs", false)
}

// P12.2

func TestAppend(t *testing.T) {
	d := New()
	all := ""
	for _, s := range []string{"a", "", "bc", "\x00\xff", strings.Repeat("d", 1000), "\n"} {
		want(t, "Append", d.Append([]byte(s)), api.OK)
		all += s
		wantAll(t, d, all, false)
	}
	// All of it waited.
	d.Restart(0)
	wantAll(t, d, "", false)
}

func TestAppendFull(t *testing.T) {
	whole := strings.Repeat("w", 60000)
	d := New()
	want(t, "Append of all room", d.Append([]byte(whole)), api.OK)
	wantAll(t, d, whole, false)
	want(t, "Append of 1 more", d.Append([]byte("x")), api.ErrFull)
	want(t, "Append of none more", d.Append(nil), api.OK)
	want(t, "Append of none more", d.Append([]byte{}), api.OK)
	wantAll(t, d, whole, false)
	want(t, "Sync of a full one", d.Sync(), api.OK)
	want(t, "Append of 1 more", d.Append([]byte("x")), api.ErrFull)
	want(t, "Trim", d.Trim(59999), api.OK)
	want(t, "Append of 2 more", d.Append([]byte("xy")), api.ErrFull)
	wantAll(t, d, whole[:59999], false)
	want(t, "Append of 1 more", d.Append([]byte("x")), api.OK)
	wantAll(t, d, whole[:59999]+"x", false)
	// What is lost leaves room.
	d.Restart(0)
	want(t, "Append of 1 more", d.Append([]byte("y")), api.OK)
	want(t, "Append of 1 more", d.Append([]byte("z")), api.ErrFull)
	wantAll(t, d, whole[:59999]+"y", false)

	d = New()
	want(t, "Append of 60001", d.Append([]byte(whole+"x")), api.ErrFull)
	want(t, "Append of many", d.Append(make([]byte, 1<<20)), api.ErrFull)
	wantAll(t, d, "", false)
	want(t, "Append of half", d.Append([]byte(whole[:30000])), api.OK)
	want(t, "Append of more than half", d.Append([]byte(whole[:30001])), api.ErrFull)
	want(t, "Append of half", d.Append([]byte(whole[:30000])), api.OK)
	wantAll(t, d, whole, false)
}

// TestAppendFullChangesNothing: what waits ahead of a call that finds no room
// waits behind it, and nothing else does.
func TestAppendFullChangesNothing(t *testing.T) {
	d := devOf(t, "abc", "de")
	want(t, "Append of too many", d.Append(make([]byte, 59996)), api.ErrFull)
	wantAll(t, d, "abcde", false)
	d.Restart(1)
	wantAll(t, d, "abcd", false)
	d = devOf(t, "abc", "")
	want(t, "Append of too many", d.Append(make([]byte, 59998)), api.ErrFull)
	d.Restart(9)
	wantAll(t, d, "abc", false)
}

func TestSync(t *testing.T) {
	d := New()
	want(t, "Sync of none", d.Sync(), api.OK)
	want(t, "Append", d.Append([]byte("ab")), api.OK)
	want(t, "Append", d.Append([]byte("c")), api.OK)
	want(t, "Sync", d.Sync(), api.OK)
	wantAll(t, d, "abc", false)
	want(t, "Sync again", d.Sync(), api.OK)
	d.Restart(0)
	wantAll(t, d, "abc", false)
	want(t, "Append", d.Append([]byte("de")), api.OK)
	d.Restart(0)
	wantAll(t, d, "abc", false)
}

func TestTrim(t *testing.T) {
	for n := 0; n <= 5; n++ {
		d := devOf(t, "abc", "de")
		want(t, "Trim", d.Trim(n), api.OK)
		wantAll(t, d, "abcde"[:n], false)
		// None of what is left waits, also of what waited ahead; what comes
		// behind it does.
		d.Restart(0)
		wantAll(t, d, "abcde"[:n], false)
		want(t, "Append", d.Append([]byte("fgh")), api.OK)
		wantAll(t, d, "abcde"[:n]+"fgh", false)
		d.Restart(1)
		wantAll(t, d, "abcde"[:n]+"f", false)
	}
}

func TestTrimWrong(t *testing.T) {
	for _, n := range someNumbers {
		if n >= 0 && n <= 5 {
			continue
		}
		d := devOf(t, "abc", "de")
		want(t, "Trim", d.Trim(n), api.ErrArg)
		wantAll(t, d, "abcde", false)
		// What waited waits.
		d.Restart(1)
		wantAll(t, d, "abcd", false)
	}
	d := New()
	want(t, "Trim of none", d.Trim(0), api.OK)
	want(t, "Trim of none", d.Trim(1), api.ErrArg)
	want(t, "Trim of none", d.Trim(-1), api.ErrArg)
}

// TestDead: ErrDead is named first, whatever else is wrong, and nothing is done.
func TestDead(t *testing.T) {
	d := deadOf(t, "abc", "de")
	for what, write := range writes() {
		want(t, what, write(d), api.ErrDead)
		wantAll(t, d, "abcde", true)
	}
	want(t, "Append of too many", d.Append(make([]byte, 60001)), api.ErrDead)
	for _, n := range someNumbers {
		want(t, "Trim", d.Trim(n), api.ErrDead)
	}
	wantAll(t, d, "abcde", true)
	d.Restart(1)
	wantAll(t, d, "abcd", false)
}

// P12.3

// TestArm: of n, so many calls that answer OK and no more, whichever they are.
func TestArm(t *testing.T) {
	for n := range 6 {
		for last, write := range writes() {
			for what, other := range writes() {
				d := devOf(t, "abc", "de")
				d.Arm(n)
				for range n {
					want(t, what, other(d), api.OK)
					wantAll(t, d, string(d.Bytes()), false)
				}
				all := string(d.Bytes())
				want(t, last, write(d), api.ErrDead)
				wantAll(t, d, all, true)
				want(t, what, other(d), api.ErrDead)
				wantAll(t, d, all, true)
			}
		}
	}
}

// TestArmNothingIsDone: at the call at which the power goes, what waited waits,
// and nothing of what it was handed is there.
func TestArmNothingIsDone(t *testing.T) {
	for what, write := range writes() {
		for keep, left := range map[int]string{0: "abc", 1: "abcd", 2: "abcde", 9: "abcde"} {
			d := devOf(t, "abc", "de")
			d.Arm(0)
			want(t, what, write(d), api.ErrDead)
			wantAll(t, d, "abcde", true)
			d.Restart(keep)
			wantAll(t, d, left, false)
		}
	}
}

// TestArmOtherErrors: a call that answers another error does not count, and the
// power does not go at it.
func TestArmOtherErrors(t *testing.T) {
	for n := range 3 {
		d := devOf(t, "abc", "de")
		d.Arm(n)
		for range n {
			wrong(t, d)
			want(t, "Append", d.Append([]byte("f")), api.OK)
		}
		wrong(t, d)
		want(t, "Sync", d.Sync(), api.ErrDead)
		wantAll(t, d, "abcdeff"[:5+n], true)
	}
}

// wrong asks calls that answer an error other than ErrDead.
func wrong(t *testing.T, d *Dev) {
	t.Helper()
	for range 3 {
		want(t, "Trim(-1)", d.Trim(-1), api.ErrArg)
		want(t, "Trim of too many", d.Trim(len(d.Bytes())+1), api.ErrArg)
		want(t, "Append of too many", d.Append(make([]byte, 60001-len(d.Bytes()))), api.ErrFull)
		if d.Off() {
			t.Error("the power is gone")
		}
	}
}

// TestArmDoesNothingItself: Arm alone changes no bytes, and Bytes and Off do not
// count.
func TestArmDoesNothingItself(t *testing.T) {
	for _, n := range someNumbers {
		d := devOf(t, "abc", "de")
		d.Arm(n)
		for range 9 {
			wantAll(t, d, "abcde", false)
		}
		d.Restart(1)
		wantAll(t, d, "abcd", false)
	}
	d := New()
	d.Arm(1)
	wantAll(t, d, "", false)
	want(t, "Sync", d.Sync(), api.OK)
	want(t, "Sync", d.Sync(), api.ErrDead)
}

// TestArmBelow: of a number below 0 it is not armed any more.
func TestArmBelow(t *testing.T) {
	for _, n := range someNumbers {
		if n >= 0 {
			continue
		}
		for _, armed := range []int{-1, 0, 1, 3} {
			d := New()
			d.Arm(armed)
			d.Arm(n)
			for what, write := range writes() {
				for range 5 {
					want(t, what, write(d), api.OK)
				}
			}
			wantAll(t, d, string(d.Bytes()), false)
		}
	}
}

// TestArmAgain: the number that came last counts, from then on.
func TestArmAgain(t *testing.T) {
	for first := range 4 {
		for second := range 4 {
			d := New()
			d.Arm(first)
			for range first {
				want(t, "Sync", d.Sync(), api.OK)
			}
			d.Arm(second)
			for range second {
				want(t, "Sync", d.Sync(), api.OK)
			}
			want(t, "Sync", d.Sync(), api.ErrDead)
		}
	}
}

func TestArmMany(t *testing.T) {
	for _, n := range []int{1000, math.MaxInt - 1, math.MaxInt} {
		d := New()
		d.Arm(n)
		for range 1000 {
			want(t, "Sync", d.Sync(), api.OK)
		}
		if n == 1000 {
			want(t, "Sync", d.Sync(), api.ErrDead)
		} else {
			want(t, "Sync", d.Sync(), api.OK)
		}
	}
}

// TestArmWhileOff: it does nothing, neither then nor when the power is back.
func TestArmWhileOff(t *testing.T) {
	for _, n := range someNumbers {
		d := deadOf(t, "abc", "de")
		d.Arm(n)
		wantAll(t, d, "abcde", true)
		for what, write := range writes() {
			want(t, what, write(d), api.ErrDead)
		}
		d.Arm(n)
		d.Restart(0)
		wantAll(t, d, "abc", false)
		for what, write := range writes() {
			want(t, what, write(d), api.OK)
		}
	}
}

// P12.4

func TestRestart(t *testing.T) {
	for _, keep := range someNumbers {
		left := "abcde"[:3+min(max(keep, 0), 2)]
		for _, made := range []func(t *testing.T, lasts, waits string) *Dev{devOf, deadOf} {
			d := made(t, "abc", "de")
			d.Restart(keep)
			wantAll(t, d, left, false)
			// None of what stayed waits.
			d.Restart(0)
			wantAll(t, d, left, false)
			want(t, "Append", d.Append([]byte("fg")), api.OK)
			d.Restart(1)
			wantAll(t, d, left+"f", false)
		}
	}
}

// TestRestartNoneWait: what lasts stays, whatever is kept.
func TestRestartNoneWait(t *testing.T) {
	for _, keep := range someNumbers {
		for _, made := range []func(t *testing.T, lasts, waits string) *Dev{devOf, deadOf} {
			d := made(t, "abc", "")
			d.Restart(keep)
			wantAll(t, d, "abc", false)
			d = made(t, "", "")
			d.Restart(keep)
			wantAll(t, d, "", false)
		}
	}
}

// TestRestartNoneLast: what waits stays from the front on, in the order in which
// it was appended.
func TestRestartNoneLast(t *testing.T) {
	for keep := range 7 {
		d := devOf(t, "", "ab")
		want(t, "Append", d.Append([]byte("cd")), api.OK)
		want(t, "Append", d.Append([]byte("ef")), api.OK)
		d.Restart(keep)
		wantAll(t, d, "abcdef"[:keep], false)
	}
}

// TestRestartIsNotArmed: neither one that is armed, nor one whose power went.
func TestRestartIsNotArmed(t *testing.T) {
	for n := range 3 {
		for _, made := range []func(t *testing.T, lasts, waits string) *Dev{devOf, deadOf} {
			d := made(t, "abc", "de")
			d.Arm(n)
			d.Restart(1)
			for range 9 {
				for what, write := range writes() {
					want(t, what, write(d), api.OK)
				}
			}
			d.Arm(1)
			want(t, "Sync", d.Sync(), api.OK)
			want(t, "Sync", d.Sync(), api.ErrDead)
		}
	}
}

// TestRestartFull: all that waits of a full one stays, if it is to.
func TestRestartFull(t *testing.T) {
	whole := bytes.Repeat([]byte("ab"), 30000)
	for _, keep := range []int{0, 1, 59999, 60000, 60001} {
		d := New()
		want(t, "Append", d.Append(whole), api.OK)
		d.Restart(keep)
		wantAll(t, d, string(whole[:min(keep, 60000)]), false)
	}
}

// P12.5

// TestSyncedStays: at whichever call the power goes, and whatever is kept, what
// was synced is a beginning of what is there.
func TestSyncedStays(t *testing.T) {
	for n := range 20 {
		for keep := -1; keep < 8; keep++ {
			d := New()
			d.Arm(n)
			all, synced := "", ""
			for i := range 10 {
				s := strings.Repeat(string(rune('a'+i)), i%3+1)
				if d.Append([]byte(s)) != api.OK {
					break
				}
				all += s
				if i%2 == 0 {
					continue
				}
				if d.Sync() != api.OK {
					break
				}
				synced = all
			}
			if want := n < 15; d.Off() != want {
				t.Fatalf("armed by %d: Off is %v", n, d.Off())
			}
			d.Restart(keep)
			wantAll(t, d, all[:min(len(synced)+max(keep, 0), len(all))], false)
		}
	}
}

// TestNotArmed: without Arm no call answers ErrDead.
func TestNotArmed(t *testing.T) {
	d := New()
	for i := range 2000 {
		for what, write := range writes() {
			want(t, what, write(d), api.OK)
		}
		wrong(t, d)
		if i%7 == 0 {
			d.Restart(i % 5)
		}
		if d.Off() {
			t.Fatal("the power is gone")
		}
	}
}
