package window

import (
	"math"
	"slices"
	"testing"

	"remuda/api"
)

const (
	size = 64      // how many numbers a window knows
	last = 1 << 40 // the greatest number that may be
)

// sawn is a window that has seen these, in that order.
func sawn(l ...int) *Window {
	w := new(Window)
	w.See(l...)
	return w
}

// checkSee tells whether just so many of these numbers are new, and all of them count as seen then.
func checkSee(t *testing.T, w *Window, want int, l ...int) {
	t.Helper()
	was := w.Greatest()
	if got := w.See(l...); got != want {
		t.Errorf("See%v with the greatest %d: %d, want %d", l, was, got, want)
	}
	for _, n := range l {
		checkSeen(t, w, n, true)
	}
}

func checkSeen(t *testing.T, w *Window, n int, want bool) {
	t.Helper()
	if got := w.Seen(n); got != want {
		t.Errorf("Seen(%d) with the greatest %d: %v", n, w.Greatest(), got)
	}
}

func checkGreatest(t *testing.T, w *Window, want int) {
	t.Helper()
	if got := w.Greatest(); got != want {
		t.Errorf("Greatest() = %d, want %d", got, want)
	}
}

// checkKnows tells whether, of the numbers up to some way above the greatest, just these were seen, and those that are too far below.
func checkKnows(t *testing.T, w *Window, greatest int, l ...int) {
	t.Helper()
	checkGreatest(t, w, greatest)
	for n := greatest - 3*size; n <= greatest+3*size; n++ {
		checkSeen(t, w, n, n < 1 || n <= greatest-size || n > last || slices.Contains(l, n))
	}
}

// wrong is numbers that may not be.
func wrong() []int {
	return []int{0, -1, -2, -63, -64, -65, -last, math.MinInt, math.MinInt + 1, last + 1, last + 2, last + 64, last + 65, 2 * last, math.MaxInt - 1, math.MaxInt}
}

// greatests is numbers that may be the greatest one: about the edges of what is known, of 32 bits, and of what may be.
func greatests() []int {
	return []int{1, 2, 31, 32, 33, 62, 63, 64, 65, 66, 100, 127, 128, 129, 1000, 1<<31 - 1, 1 << 31, 1<<32 - 1, 1 << 32, 1<<32 + 1, last - 65, last - 64, last - 1, last}
}

// P13.1: the chapter's examples.
func TestExamples(t *testing.T) {
	checkSee(t, sawn(), 2, 5, 3, 5)
	for _, w := range []*Window{sawn(), sawn(5, 3, 5)} {
		checkSee(t, w, 1, 100)
		checkSee(t, w, 0, 36)
		checkSee(t, w, 1, 37)
		checkKnows(t, w, 100, 100, 37)
	}
}

// P13.1: a window's zero value has seen nothing; no number that may be counts as seen.
func TestZero(t *testing.T) {
	var w Window
	for _, x := range []*Window{&w, {}, new(Window), sawn()} {
		checkKnows(t, x, 0)
		for _, n := range greatests() {
			checkSeen(t, x, n, false)
		}
		checkSee(t, x, 0)
		checkSee(t, x, 0, []int{}...)
		checkKnows(t, x, 0)
	}
}

// P13.1: each number that may be is new as the first one, once; of those below it just 63 are not seen.
func TestFirst(t *testing.T) {
	for _, n := range greatests() {
		w := sawn()
		checkSee(t, w, 1, n)
		checkKnows(t, w, n, n)
		checkSee(t, w, 0, n)
		checkSee(t, w, 0, n, n, n)
		checkKnows(t, w, n, n)
	}
}

// P13.1: each of the 64 numbers up to the greatest is new, once, and makes no other one seen; none below them is.
func TestBelow(t *testing.T) {
	for _, g := range greatests() {
		for back := range 3 * size {
			w := sawn(g)
			n := g - back
			if n < 1 || back == 0 || back >= size {
				checkSee(t, w, 0, n)
				checkKnows(t, w, g, g)
				continue
			}
			checkSeen(t, w, n, false)
			checkSee(t, w, 1, n)
			checkKnows(t, w, g, g, n)
			checkSee(t, w, 0, n)
			checkKnows(t, w, g, g, n)
		}
	}
}

// P13.1: what is above the greatest one is the greatest then; of those that were seen the ones within 64 are known still, by themselves.
func TestAbove(t *testing.T) {
	for _, g := range []int{1, 63, 64, 65, 1000, 1<<32 - 1, last - 200} {
		for further := 1; further <= 200; further++ {
			for _, back := range []int{1, 2, 31, 32, 33, 62, 63} {
				w := sawn(g, g-back)
				checkSee(t, w, 1, g+further)
				known := []int{g + further}
				for _, n := range []int{g, g - back} {
					if n >= 1 {
						known = append(known, n)
					}
				}
				checkKnows(t, w, g+further, known...)
			}
		}
	}
}

// P13.1: what is far above leaves nothing of what was known.
func TestFarAbove(t *testing.T) {
	for _, further := range []int{64, 65, 127, 128, 129, 256, 1 << 16, 1<<32 - 64, 1 << 32, 1<<32 + 63, last - 100} {
		w := sawn()
		for n := 1; n <= 100; n++ {
			checkSee(t, w, 1, n)
		}
		checkSee(t, w, 1, 100+further)
		checkKnows(t, w, 100+further, 100+further)
		checkSee(t, w, 1, 100+further-63)
		checkSee(t, w, 0, 100+further-64)
		checkKnows(t, w, 100+further, 100+further, 100+further-63)
	}
}

// P13.1: up to the greatest number that may be, and none above it.
func TestLast(t *testing.T) {
	w := sawn(1)
	checkSee(t, w, 1, last)
	checkSee(t, w, 0, last+1, last+64, last-64, 1)
	checkKnows(t, w, last, last)
	checkSee(t, w, 2, last-63, last-1)
	checkKnows(t, w, last, last, last-1, last-63)
}

// P13.1: numbers that may not be count as seen, are never new, and leave all as it was.
func TestWrong(t *testing.T) {
	for _, g := range append(greatests(), 0) {
		w := sawn(g, g-1, g-62)
		was := *w
		for _, n := range wrong() {
			checkSeen(t, w, n, true)
			checkSee(t, w, 0, n, n)
			checkGreatest(t, w, g)
			if *w != was {
				t.Fatalf("See(%d) with the greatest %d changed it", n, g)
			}
		}
		checkSee(t, w, 0, wrong()...)
		if *w != was {
			t.Fatalf("wrong numbers, with the greatest %d, changed it", g)
		}
	}
	checkSee(t, sawn(), 3, slices.Concat(wrong(), []int{9}, wrong(), []int{10, 8})...)
}

// P13.1: number by number: what comes first in a list counts for what comes behind it.
func TestLists(t *testing.T) {
	for _, x := range []struct {
		l              []int
		many, greatest int
	}{
		{[]int{1, 2, 3}, 3, 3},
		{[]int{3, 2, 1}, 3, 3},
		{[]int{7, 7, 7}, 1, 7},
		{[]int{1, 64}, 2, 64},
		{[]int{64, 1}, 2, 64},
		{[]int{1, 65}, 2, 65},
		{[]int{65, 1}, 1, 65},
		{[]int{65, 2}, 2, 65},
		{[]int{1, 65, 1}, 2, 65},
		{[]int{100, 36, 37, 36}, 2, 100},
		{[]int{last, 1, last - 63, last - 64}, 2, last},
		{[]int{0, 5, -5, 4, last + 1, 5, 4}, 2, 5},
	} {
		w := sawn()
		checkSee(t, w, x.many, x.l...)
		checkGreatest(t, w, x.greatest)
		checkSee(t, w, 0, x.l...)

		one := sawn()
		many := 0
		for _, n := range x.l {
			many += one.See(n)
		}
		if many != x.many || *one != *w {
			t.Errorf("%v one by one: %d new, want %d, the greatest %d", x.l, many, x.many, one.Greatest())
		}
	}
}

// P13.1: of every set of numbers below the greatest, as many are new as it has, and just these are known then.
func TestSets(t *testing.T) {
	const base = 10000
	r := chance()
	for range 2000 {
		set := r.Uint64()
		var l []int
		for back := range size {
			if set>>back&1 == 1 {
				l = append(l, base-back)
			}
		}
		r.Shuffle(len(l), func(i, j int) { l[i], l[j] = l[j], l[i] })
		w := sawn(base)
		fresh := len(l)
		if set&1 == 1 {
			fresh--
		}
		checkSee(t, w, fresh, l...)
		checkKnows(t, w, base, append(l, base)...)
	}
}

// P13.1: behind Clear nothing is seen, once and again; what was seen may be new again.
func TestClear(t *testing.T) {
	for _, g := range greatests() {
		w := sawn()
		for range 3 {
			checkSee(t, w, 1, g)
			w.See(g-1, g-63, g-64)
			w.Clear()
			checkKnows(t, w, 0)
			checkSeen(t, w, g, false)
			w.Clear()
			checkKnows(t, w, 0)
			checkSee(t, w, 1, 1)
			checkKnows(t, w, 1, 1)
			w.Clear()
		}
		if *w != (Window{}) {
			t.Error("a window that is cleared isn't as a new one")
		}
	}
}

// P13.1: what isn't there has seen every number, and takes none.
func TestNoWindow(t *testing.T) {
	var w *Window
	for range 2 {
		checkSee(t, w, 0)
		checkSee(t, w, 0, greatests()...)
		for _, n := range append(wrong(), greatests()...) {
			checkSee(t, w, 0, n)
		}
		checkGreatest(t, w, 0)
		w.Clear()
	}
}

// P13.1: two windows have nothing to do with one another, also where one was a copy of the other.
func TestTwoWindows(t *testing.T) {
	a, b := sawn(10), sawn(200)
	checkKnows(t, a, 10, 10)
	checkKnows(t, b, 200, 200)
	c := *a
	checkSee(t, &c, 2, 11, 9)
	b.Clear()
	checkKnows(t, a, 10, 10)
	checkKnows(t, b, 0)
	checkKnows(t, &c, 11, 9, 10, 11)
	a.Clear()
	checkKnows(t, &c, 11, 9, 10, 11)
}

// Rule 2: a list that was handed in stays as it was, and what is done to it later does nothing.
func TestListsAreNotShared(t *testing.T) {
	l := []int{5, 100, 99, 5, 0, last + 1, 100}
	was := slices.Clone(l)
	w := sawn()
	checkSee(t, w, 3, l...)
	if !slices.Equal(l, was) {
		t.Errorf("handed in was %v, it is %v", was, l)
	}
	for i := range l {
		l[i] = 98
	}
	checkKnows(t, w, 100, 100, 99)
}

// The tests write the limits as numbers: they are api's.
func TestLimits(t *testing.T) {
	if api.Window != size || api.MaxNum != last {
		t.Error(api.Window, api.MaxNum)
	}
}
