package wheel

import (
	"fmt"
	"math"
	"slices"
	"testing"

	"remuda/api"
)

// keyed is a key of each number, no two the same.
func keyed(numbers ...int) []Key {
	l := make([]Key, len(numbers))
	for i, x := range numbers {
		l[i] = Key{Kind: x % 3, Cell: x, Tid: api.Tid{Seq: x / 2}}
	}
	return l
}

// upTo is so many keys, no two the same.
func upTo(many int) []Key {
	var l []Key
	for i := range many {
		l = append(l, keyed(i)...)
	}
	return l
}

// brief is the beginning of what is to be told.
func brief(v any) string {
	s := fmt.Sprint(v)
	return s[:min(len(s), 300)]
}

func checkSet(t *testing.T, w *Wheel, k Key, after int, want api.Errno) {
	t.Helper()
	if e := w.Set(k, after); e != want {
		t.Errorf("Set(%v, %d): %d, want %d", k, after, e, want)
	}
}

// setAll sets timers, all due after so many ticks.
func setAll(t *testing.T, w *Wheel, after int, l ...Key) {
	t.Helper()
	for _, k := range l {
		checkSet(t, w, k, after, api.OK)
	}
}

// checkDue tells whether a timer is due at a time; -1: whether there is none.
func checkDue(t *testing.T, w *Wheel, k Key, want int) {
	t.Helper()
	n, ok := w.Due(k)
	if ok != (want >= 0) || n != max(want, 0) {
		t.Errorf("Due(%v) = %d, %v, want %d", k, n, ok, want)
	}
}

// checkKeys tells whether just these timers are there, in that order.
func checkKeys(t *testing.T, w *Wheel, want ...Key) {
	t.Helper()
	if got := w.Keys(); !slices.Equal(got, want) {
		t.Errorf("Keys are %s, want %s", brief(got), brief(want))
	}
	for _, k := range want {
		if _, ok := w.Due(k); !ok {
			t.Errorf("Due of %v, which is there: there is none", k)
		}
	}
}

// checkTick tells whether just these timers are due one tick on, in that order, and are no more then.
func checkTick(t *testing.T, w *Wheel, want ...Key) {
	t.Helper()
	was := w.Now()
	if got := w.Tick(); !slices.Equal(got, want) || w.Now() != was+1 {
		t.Errorf("Tick at %d: %s, want %s; the time is %d", was, brief(got), brief(want), w.Now())
	}
	for _, k := range want {
		checkDue(t, w, k, -1)
	}
}

// skip lets so many ticks go by, at which nothing is due.
func skip(t *testing.T, w *Wheel, many int) {
	t.Helper()
	for range many {
		checkTick(t, w)
	}
}

func checkStop(t *testing.T, w *Wheel, want int, l ...Key) {
	t.Helper()
	if got := w.Stop(l...); got != want {
		t.Errorf("Stop of %s: %d, want %d", brief(l), got, want)
	}
	for _, k := range l {
		checkDue(t, w, k, -1)
	}
}

// wrongAfter is ticks after which no timer may be due.
func wrongAfter() []int {
	return []int{0, -1, -2, -1000, math.MinInt, 1001, 1002, 1256, 1 << 16, 1<<32 + 1, api.MaxNum, math.MaxInt}
}

// kinds is keys of which each differs from the first in one number alone.
func kinds() []Key {
	l := []Key{{}}
	for _, x := range []int{1, 2, -1, 256, 1 << 32, math.MinInt, math.MaxInt} {
		l = append(l, Key{Kind: x}, Key{Cell: x}, Key{Node: x}, Key{Tid: api.Tid{Node: x}}, Key{Tid: api.Tid{Epoch: x}}, Key{Tid: api.Tid{Seq: x}})
	}
	return l
}

// P12.1: the chapter's example.
func TestExample(t *testing.T) {
	for _, k := range kinds() {
		w := New()
		checkSet(t, w, k, 2, api.OK)
		checkTick(t, w)
		checkTick(t, w, k)
		checkTick(t, w)
	}
}

// P12.1: a new wheel has the time 0 and no timers, and its time goes on by one.
func TestNew(t *testing.T) {
	for _, w := range []*Wheel{New(), {}, new(Wheel)} {
		if w.Now() != 0 {
			t.Error(w.Now())
		}
		checkKeys(t, w)
		for i := range 2000 {
			checkTick(t, w)
			if w.Now() != i+1 {
				t.Fatalf("%d behind %d ticks", w.Now(), i+1)
			}
		}
		checkStop(t, w, 0, kinds()...)
		checkKeys(t, w)
	}
}

// P12.1: two wheels have nothing to do with one another.
func TestTwoWheels(t *testing.T) {
	k := keyed(0, 1, 2)
	a, b := New(), New()
	setAll(t, a, 1, k[0], k[1])
	setAll(t, b, 2, k[1], k[2])
	checkTick(t, a, k[0], k[1])
	checkKeys(t, b, k[1], k[2])
	checkStop(t, a, 0, k...)
	a.Clear()
	checkTick(t, b)
	checkTick(t, b, k[1], k[2])
	if a.Now() != 1 || b.Now() != 2 {
		t.Error(a.Now(), b.Now())
	}
}

// P12.1: of each count of ticks that may be, and from any time on, a timer is due just then.
func TestSetAfter(t *testing.T) {
	k := keyed(7)[0]
	for after := 1; after <= 1000; after++ {
		w := New()
		skip(t, w, after%7)
		checkSet(t, w, k, after, api.OK)
		checkDue(t, w, k, after%7+after)
		checkKeys(t, w, k)
		skip(t, w, after-1)
		checkDue(t, w, k, after%7+after)
		checkTick(t, w, k)
		checkKeys(t, w)
		skip(t, w, 3)
	}
}

// P12.1: of no other count; what was set of this key, and of others, stays.
func TestSetRefused(t *testing.T) {
	k := keyed(0, 1, 2)
	for _, after := range wrongAfter() {
		w := New()
		checkSet(t, w, k[0], after, api.ErrArg)
		checkKeys(t, w)
		setAll(t, w, 2, k[0], k[1])
		for _, x := range k {
			checkSet(t, w, x, after, api.ErrArg)
		}
		checkKeys(t, w, k[0], k[1])
		checkDue(t, w, k[2], -1)
		checkTick(t, w)
		checkSet(t, w, k[0], after, api.ErrArg)
		checkTick(t, w, k[0], k[1])
		skip(t, w, 3)
	}
}

// P12.1: up to MaxTimers timers, and no more; one that is there may be set anew; what is due, stopped, cleared makes room.
func TestFull(t *testing.T) {
	l := upTo(300)
	w := New()
	for i, k := range l[:256] {
		checkSet(t, w, k, 1+i/200*9, api.OK)
	}
	refused := func(k Key) {
		t.Helper()
		checkSet(t, w, k, 1, api.ErrFull)
		checkSet(t, w, k, 1000, api.ErrFull)
		checkSet(t, w, k, 0, api.ErrArg)
		checkSet(t, w, k, 1001, api.ErrArg)
		checkDue(t, w, k, -1)
	}
	for _, k := range l[256:] {
		refused(k)
	}
	checkKeys(t, w, l[:256]...)
	for i, k := range l[:256] {
		checkSet(t, w, k, 1+i/200*9, api.OK)
	}
	refused(l[256])
	checkStop(t, w, 0, l[256])
	refused(l[256])
	checkStop(t, w, 1, l[255])
	checkSet(t, w, l[256], 10, api.OK)
	refused(l[255])
	checkTick(t, w, l[:200]...)
	setAll(t, w, 9, l[:200]...)
	refused(l[255])
	skip(t, w, 8)
	checkTick(t, w, slices.Concat(l[200:255], l[256:257], l[:200])...)
	setAll(t, w, 5, l[:256]...)
	refused(l[256])
	w.Clear()
	setAll(t, w, 5, l[44:]...)
	refused(l[0])
	checkKeys(t, w, l[44:]...)
}

// P12.1: keys that differ in one number alone are of two timers.
func TestKeysDiffer(t *testing.T) {
	all := kinds()
	for i, k := range all {
		w := New()
		checkSet(t, w, k, 1, api.OK)
		for j, x := range all {
			if i != j {
				checkDue(t, w, x, -1)
				checkStop(t, w, 0, x)
			}
		}
		checkTick(t, w, k)
	}
	w := New()
	setAll(t, w, 4, all...)
	checkKeys(t, w, all...)
	for _, k := range all {
		checkDue(t, w, k, 4)
	}
	skip(t, w, 3)
	checkTick(t, w, all...)
}

// P12.1: of a timer that is set anew, sooner, later or for the same time, just the last one counts, behind all that were set ahead of it.
func TestSetAnew(t *testing.T) {
	k := keyed(0, 1, 2, 3)
	for was := 1; was <= 6; was++ {
		for after := 1; after <= 6; after++ {
			for gone := range was {
				w := New()
				setAll(t, w, was, k[0])
				setAll(t, w, after+gone, k[1], k[2])
				skip(t, w, gone)
				checkSet(t, w, k[0], after, api.OK)
				checkSet(t, w, k[3], after, api.OK)
				checkDue(t, w, k[0], gone+after)
				checkKeys(t, w, k[1], k[2], k[0], k[3])
				skip(t, w, after-1)
				checkTick(t, w, k[1], k[2], k[0], k[3])
				skip(t, w, 12)
			}
		}
	}
}

// P12.1: those that are due at one time are told in the order in which they were set, whenever that was.
func TestOrderOfSetting(t *testing.T) {
	l := upTo(200)
	slices.Reverse(l)
	w := New()
	for i, k := range l {
		checkSet(t, w, k, 40-w.Now(), api.OK)
		checkDue(t, w, k, 40)
		if i%6 == 5 {
			skip(t, w, 1)
		}
	}
	checkKeys(t, w, l...)
	skip(t, w, 39-w.Now())
	checkTick(t, w, l...)
}

// P12.1: Keys stand by when they are due, then by when they were set, in whatever order that was.
func TestOrderOfKeys(t *testing.T) {
	k := keyed(5, 4, 3, 2, 1, 0)
	w := New()
	for i, after := range []int{1000, 1, 3, 1, 3, 1000} {
		checkSet(t, w, k[i], after, api.OK)
	}
	checkKeys(t, w, k[1], k[3], k[2], k[4], k[0], k[5])
	checkKeys(t, w, k[1], k[3], k[2], k[4], k[0], k[5])
	checkTick(t, w, k[1], k[3])
	checkKeys(t, w, k[2], k[4], k[0], k[5])
	checkSet(t, w, k[1], 999, api.OK)
	checkSet(t, w, k[3], 2, api.OK)
	checkSet(t, w, k[2], 998, api.OK)
	checkKeys(t, w, k[4], k[3], k[2], k[0], k[5], k[1])
	checkTick(t, w)
	checkTick(t, w, k[4], k[3])
	skip(t, w, 995)
	checkTick(t, w, k[2])
	checkTick(t, w, k[0], k[5], k[1])
	checkKeys(t, w)
}

// P12.1: none, one, several are stopped, each once, wherever they stand; the others are due as they were.
func TestStop(t *testing.T) {
	k := keyed(0, 1, 2, 3, 4)
	for set := range 32 {
		w := New()
		var left []Key
		var gone []Key
		for i, x := range k {
			checkSet(t, w, x, 1+i/2, api.OK)
			if set>>i&1 == 1 {
				gone = append(gone, x)
			} else {
				left = append(left, x)
			}
		}
		checkStop(t, w, 0)
		checkStop(t, w, 0, []Key{}...)
		checkKeys(t, w, k...)
		checkStop(t, w, len(gone), slices.Concat(keyed(9), gone, keyed(8), gone)...)
		checkKeys(t, w, left...)
		checkStop(t, w, 0, gone...)
		for tick := range 4 {
			var due []Key
			for i, x := range k {
				if i/2 == tick && set>>i&1 == 0 {
					due = append(due, x)
				}
			}
			checkTick(t, w, due...)
		}
		checkStop(t, w, 0, k...)
	}
}

// P12.1: what was stopped, and what was due, may be set again, and is due then alone.
func TestSetBehindTheEnd(t *testing.T) {
	k := keyed(0, 1)
	w := New()
	setAll(t, w, 2, k...)
	checkStop(t, w, 1, k[0])
	checkSet(t, w, k[0], 2, api.OK)
	checkKeys(t, w, k[1], k[0])
	skip(t, w, 1)
	checkTick(t, w, k[1], k[0])
	checkSet(t, w, k[0], 1, api.OK)
	checkTick(t, w, k[0])
	setAll(t, w, 3, k...)
	checkStop(t, w, 2, k...)
	checkSet(t, w, k[1], 5, api.OK)
	skip(t, w, 4)
	checkTick(t, w, k[1])
	skip(t, w, 5)
}

// P12.1: behind Clear there are no timers, once and again; the time stays.
func TestClear(t *testing.T) {
	l := upTo(256)
	w := New()
	for round := range 3 {
		setAll(t, w, 2, l[:128]...)
		setAll(t, w, 3, l[128:]...)
		skip(t, w, 1)
		w.Clear()
		w.Clear()
		if w.Now() != 4*round+1 {
			t.Error(w.Now())
		}
		checkKeys(t, w)
		for _, k := range l {
			checkDue(t, w, k, -1)
		}
		checkStop(t, w, 0, l...)
		skip(t, w, 3)
	}
}

// P12.1: what isn't there has the time 0, no timers, and takes none.
func TestNoWheel(t *testing.T) {
	var w *Wheel
	for range 2 {
		for _, k := range kinds() {
			for _, after := range append(wrongAfter(), 1, 2, 1000) {
				checkSet(t, w, k, after, api.ErrArg)
			}
			checkDue(t, w, k, -1)
		}
		checkStop(t, w, 0)
		checkStop(t, w, 0, kinds()...)
		if l := w.Tick(); len(l) != 0 || w.Now() != 0 {
			t.Error(l, w.Now())
		}
		checkKeys(t, w)
		w.Clear()
	}
}

// P12.1: the time goes on up to MaxNum, and stays there; what is due then is told, what would be due behind it never is.
func TestMaxNum(t *testing.T) {
	k := keyed(0, 1, 2, 3)
	w := New()
	w.now = 1<<40 - 3 // nobody waits for so many ticks
	for i, after := range []int{2, 3, 4, 1000} {
		checkSet(t, w, k[i], after, api.OK)
	}
	checkTick(t, w)
	checkTick(t, w, k[0])
	checkTick(t, w, k[1])
	if w.Now() != 1<<40 {
		t.Error(w.Now())
	}
	checkSet(t, w, k[0], 1, api.OK)
	for range 1003 {
		if l := w.Tick(); len(l) != 0 || w.Now() != 1<<40 {
			t.Fatal(l, w.Now())
		}
	}
	checkDue(t, w, k[0], 1<<40+1)
	checkKeys(t, w, k[2], k[0], k[3])
	checkStop(t, w, 3, k...)
}

// Rule 2: a list that was handed in stays as it was, what was told stays as it was, and neither is what the wheel has.
func TestListsAreNotShared(t *testing.T) {
	l := upTo(20)
	w := New()
	setAll(t, w, 1, l[:5]...)
	setAll(t, w, 2, l[5:]...)
	stopped := slices.Clone(l[3:7])
	checkStop(t, w, 4, stopped...)
	all := w.Keys()
	due := w.Tick()
	setAll(t, w, 1, l[:8]...)
	if !slices.Equal(stopped, l[3:7]) || !slices.Equal(all, slices.Concat(l[:3], l[7:])) || !slices.Equal(due, l[:3]) {
		t.Errorf("handed in was %v, told were %v and %v", stopped, all, due)
	}
	kept := w.Keys()
	for _, x := range [][]Key{stopped, all, due, w.Keys()} {
		clear(x)
		_ = append(x[:1], keyed(99)...)
	}
	checkKeys(t, w, kept...)
	checkTick(t, w, kept...)
}
