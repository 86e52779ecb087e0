package lease

import (
	"math"
	"slices"
	"testing"

	"remuda/api"
)

const most = 16 // how many cells a table may have

// name is one of some names, no two of which are the same.
func name(i int) api.Tid { return api.Tid{Node: i%3 + 1, Epoch: i/3 + 1, Seq: 7} }

// upTo is the numbers from 0 on.
func upTo(many int) []int {
	var l []int
	for i := range many {
		l = append(l, i)
	}
	return l
}

// backwards is a list from its end on.
func backwards(l []int) []int {
	l = slices.Clone(l)
	slices.Reverse(l)
	return l
}

// extremes is numbers at the edges of what an int can be, of 32 bits, and of what may be.
func extremes() []int {
	return []int{math.MinInt, math.MinInt + 1, -api.MaxNum, -1 << 32, -1<<31 - 1, -2, -1, 0, 1, 15, 16, 17, 1<<31 - 1, 1 << 31, 1<<32 - 1, 1 << 32, api.MaxNum, api.MaxNum + 1, math.MaxInt - 1, math.MaxInt}
}

// noCells is numbers that are no cells of a table.
func noCells(cells int) []int {
	l := []int{cells, cells + 1, 17, 100, 256, 1<<32 + 1, -3, -16}
	for _, n := range extremes() {
		if n < 0 || n >= cells {
			l = append(l, n)
		}
	}
	return l
}

func newTable(t *testing.T, cells int) *Table {
	t.Helper()
	x, e := New(cells)
	if x == nil || e != api.OK {
		t.Fatalf("New(%d): %v, %d", cells, x, e)
	}
	return x
}

// shown is the holds of a table's cells by Of; the zero one, where nobody holds the cell.
func shown(x *Table, cells int) []Hold {
	var l []Hold
	for cell := range cells {
		h, _ := x.Of(cell)
		l = append(l, h)
	}
	return l
}

// checkHold tells whether a Hold answers this, and changes nothing if it refuses.
func checkHold(t *testing.T, x *Table, want api.Errno, who api.Tid, until int, l ...int) {
	t.Helper()
	was, many := shown(x, most), x.Held()
	if got := x.Hold(who, until, l...); got != want {
		t.Errorf("Hold(%v, %d, %v): %d, want %d", who, until, l, got, want)
	}
	if want != api.OK && (!slices.Equal(shown(x, most), was) || x.Held() != many) {
		t.Errorf("behind a Hold of %v that was refused with %d: %v, was %v", l, want, shown(x, most), was)
	}
}

// checkHeld tells whether just these of a table's cells are held, by Of, by Held and by May.
func checkHeld(t *testing.T, x *Table, cells int, want map[int]Hold) {
	t.Helper()
	for range 2 {
		if got := x.Held(); got != len(want) {
			t.Errorf("Held: %d, want %d", got, len(want))
		}
		for cell := range cells {
			h, held := want[cell]
			if got, ok := x.Of(cell); got != h || ok != held {
				t.Errorf("Of(%d): %v, %v, want %v, %v", cell, got, ok, h, held)
			}
			for i := range 5 {
				checkMay(t, x, !held || h.Tid == name(i), name(i), cell)
			}
		}
	}
}

func checkMay(t *testing.T, x *Table, want bool, who api.Tid, l ...int) {
	t.Helper()
	if got := x.May(who, l...); got != want {
		t.Errorf("May(%v, %v): %v", who, l, got)
	}
}

func checkFree(t *testing.T, x *Table, who api.Tid, want ...int) {
	t.Helper()
	if got := x.Free(who); !slices.Equal(got, want) {
		t.Errorf("Free(%v): %v, want %v", who, got, want)
	}
}

func checkExpire(t *testing.T, x *Table, now int, want ...int) {
	t.Helper()
	if got := x.Expire(now); !slices.Equal(got, want) {
		t.Errorf("Expire(%d): %v, want %v", now, got, want)
	}
}

// P18.1: the chapter's example.
func TestExample(t *testing.T) {
	x, a, b := newTable(t, 4), name(0), name(1)
	checkHold(t, x, api.OK, a, 5, 1, 2)
	checkHold(t, x, api.ErrLocked, b, 9, 2)
	checkHeld(t, x, 4, map[int]Hold{1: {a, 5}, 2: {a, 5}})
	checkExpire(t, x, 5, 1, 2)
	checkHeld(t, x, 4, nil)
}

// P18.1: a table may have 1 to 16 cells, and has just these; none is held at first.
func TestNew(t *testing.T) {
	for cells := 1; cells <= most; cells++ {
		x := newTable(t, cells)
		checkHeld(t, x, cells, nil)
		checkExpire(t, x, math.MaxInt)
		checkFree(t, x, api.Tid{})
		want := map[int]Hold{}
		for cell := range cells {
			checkHold(t, x, api.OK, name(0), cell, cell)
			want[cell] = Hold{name(0), cell}
			checkHeld(t, x, cells, want)
		}
	}
	for _, cells := range slices.Concat(extremes(), []int{-16, 18, 32, 256, 1<<32 + 1, 1<<32 + 16}) {
		if x, e := New(cells); (cells < 1 || cells > most) && (x != nil || e != api.ErrArg) {
			t.Errorf("New(%d): %v, %d", cells, x, e)
		}
	}
}

// P18.1: two tables have nothing to do with one another.
func TestTwoTables(t *testing.T) {
	x, y, a, b := newTable(t, 3), newTable(t, 3), name(0), name(1)
	checkHold(t, x, api.OK, a, 5, 0, 1)
	checkHold(t, y, api.OK, b, 6, 1, 2)
	checkFree(t, y, a)
	checkExpire(t, y, 5)
	checkHeld(t, x, 3, map[int]Hold{0: {a, 5}, 1: {a, 5}})
	checkHeld(t, y, 3, map[int]Hold{1: {b, 6}, 2: {b, 6}})
	checkExpire(t, x, 5, 0, 1)
	checkHeld(t, y, 3, map[int]Hold{1: {b, 6}, 2: {b, 6}})
}

// P18.1: who holds a cell already holds it till the later of both times, whichever came first; nobody else comes to hold it by that.
func TestLaterTimeCounts(t *testing.T) {
	for _, first := range extremes() {
		for _, second := range extremes() {
			x := newTable(t, 3)
			checkHold(t, x, api.OK, name(0), first, 1)
			checkHold(t, x, api.OK, name(0), second, 1)
			checkHeld(t, x, 3, map[int]Hold{1: {name(0), max(first, second)}})
			checkHold(t, x, api.ErrLocked, name(1), second, 1)
		}
	}
}

// P18.1: what counts for the one cell of a list doesn't for another one: each has its later time, and those that aren't named keep theirs.
func TestTimesOfEach(t *testing.T) {
	x, a, b := newTable(t, 6), name(0), name(1)
	checkHold(t, x, api.OK, a, 5, 1, 3)
	checkHold(t, x, api.OK, a, 8, 4)
	checkHold(t, x, api.OK, b, 2, 0)
	checkHold(t, x, api.OK, a, 7, 5, 4, 3)
	checkHeld(t, x, 6, map[int]Hold{0: {b, 2}, 1: {a, 5}, 3: {a, 7}, 4: {a, 8}, 5: {a, 7}})
	checkHold(t, x, api.OK, a, 9)
	checkHeld(t, x, 6, map[int]Hold{0: {b, 2}, 1: {a, 5}, 3: {a, 7}, 4: {a, 8}, 5: {a, 7}})
}

// P18.1: behind what was let go nothing of the old hold counts, neither who nor its later time.
func TestHoldAnew(t *testing.T) {
	for _, until := range extremes() {
		for i, gone := range []func(x *Table){
			func(x *Table) { checkFree(t, x, name(0), 1) },
			func(x *Table) { checkExpire(t, x, math.MaxInt, 1) },
		} {
			for _, who := range []api.Tid{name(0), name(1), {}} {
				x := newTable(t, 2)
				checkHold(t, x, api.OK, name(0), math.MaxInt-i, 1)
				gone(x)
				checkHold(t, x, api.OK, who, until, 1)
				checkHeld(t, x, 2, map[int]Hold{1: {who, until}})
			}
		}
	}
}

// P18.1: lists of cells in any order, a cell twice, all, and none.
func TestHoldLists(t *testing.T) {
	for cells := 1; cells <= most; cells++ {
		all := upTo(cells)
		for _, l := range [][]int{nil, {}, {cells - 1}, {0, 0}, {cells - 1, 0, cells - 1}, all, backwards(all), slices.Concat(all, all)} {
			x, want := newTable(t, cells), map[int]Hold{}
			for _, cell := range l {
				want[cell] = Hold{name(2), 4}
			}
			checkMay(t, x, true, name(2), l...)
			checkHold(t, x, api.OK, name(2), 4, l...)
			checkHeld(t, x, cells, want)
			checkMay(t, x, true, name(2), l...)
			checkMay(t, x, len(l) == 0, name(3), l...)
		}
	}
}

// P18.1: a list in which one is no cell is refused, wherever that one stands, also if somebody else holds another one of it: nothing is done.
func TestNoSuchCell(t *testing.T) {
	for cells := 1; cells <= most; cells++ {
		for _, wrong := range noCells(cells) {
			x := newTable(t, cells)
			checkHold(t, x, api.OK, name(0), 5, 0)
			for _, l := range [][]int{{wrong}, {0, wrong}, {wrong, 0}, {cells - 1, wrong}, {wrong, cells - 1}, {0, wrong, cells - 1}} {
				for i := range 2 {
					checkHold(t, x, api.ErrArg, name(i), 9, l...)
					checkMay(t, x, false, name(i), l...)
				}
			}
			if h, ok := x.Of(wrong); h != (Hold{}) || ok {
				t.Errorf("Of(%d) of %d cells: %v, %v", wrong, cells, h, ok)
			}
			checkHeld(t, x, cells, map[int]Hold{0: {name(0), 5}})
		}
	}
}

// P18.1: a list of which somebody else holds one is refused, whichever it is, and till whenever it is held: nothing is done, also not to what was held already.
func TestLocked(t *testing.T) {
	for locked := range most {
		for _, until := range extremes() {
			x := newTable(t, most)
			own := (locked + 3) % most
			checkHold(t, x, api.OK, name(0), until, locked)
			checkHold(t, x, api.OK, name(1), 5, own)
			for _, l := range [][]int{{locked}, {own, locked}, {locked, own}, upTo(most), backwards(upTo(most))} {
				checkHold(t, x, api.ErrLocked, name(1), 99, l...)
				checkMay(t, x, false, name(1), l...)
			}
			checkHeld(t, x, most, map[int]Hold{locked: {name(0), until}, own: {name(1), 5}})
			others := slices.DeleteFunc(upTo(most), func(cell int) bool { return cell == locked })
			checkMay(t, x, true, name(1), others...)
			checkHold(t, x, api.OK, name(1), 99, others...)
			checkFree(t, x, name(1), others...)
			checkHeld(t, x, most, map[int]Hold{locked: {name(0), until}})
		}
	}
}

// names is names that differ from one another by one number alone, right ones and others.
func names() []api.Tid {
	l := []api.Tid{{}, {Node: 1, Epoch: 1, Seq: 1}}
	for _, n := range extremes() {
		if n != 0 && n != 1 {
			l = append(l, api.Tid{Node: n, Epoch: 1, Seq: 1}, api.Tid{Node: 1, Epoch: n, Seq: 1}, api.Tid{Node: 1, Epoch: 1, Seq: n})
		}
	}
	return append(l, api.Tid{Node: 1}, api.Tid{Epoch: 1}, api.Tid{Seq: 1})
}

// P18.1: names that differ by one number alone are two; each may hold, the zero one too.
func TestNames(t *testing.T) {
	for _, a := range names() {
		for _, b := range names() {
			x := newTable(t, 2)
			checkHold(t, x, api.OK, a, 0, 0)
			if h, ok := x.Of(0); h != (Hold{a, 0}) || !ok || x.Held() != 1 {
				t.Errorf("Of a cell that %v holds: %v, %v", a, h, ok)
			}
			checkMay(t, x, a == b, b, 0)
			if a == b {
				checkHold(t, x, api.OK, b, 1, 0, 1)
				checkFree(t, x, b, 0, 1)
				continue
			}
			checkHold(t, x, api.ErrLocked, b, 1, 0, 1)
			checkFree(t, x, b)
			checkFree(t, x, a, 0)
		}
	}
}

// P18.1: all that one holds is freed, rising, in whatever order it came, at whatever times; what others hold stays.
func TestFree(t *testing.T) {
	for cells := 1; cells <= most; cells++ {
		x := newTable(t, cells)
		own, rest := []int(nil), map[int]Hold{}
		for _, cell := range backwards(upTo(cells)) {
			i := cell % 3
			checkHold(t, x, api.OK, name(i), extremes()[cell], cell)
			if i == 1 {
				own = append([]int{cell}, own...)
			} else {
				rest[cell] = Hold{name(i), extremes()[cell]}
			}
		}
		checkFree(t, x, name(3))
		checkFree(t, x, api.Tid{})
		checkFree(t, x, name(1), own...)
		checkHeld(t, x, cells, rest)
		checkFree(t, x, name(1))
		checkHeld(t, x, cells, rest)
	}
}

// P18.1: of each pair of times: a hold ends if its time isn't above the one that is told, else it stays.
func TestExpireAtEachTime(t *testing.T) {
	for _, until := range extremes() {
		for _, now := range extremes() {
			x := newTable(t, 3)
			checkHold(t, x, api.OK, name(0), until, 2)
			if until > now {
				checkExpire(t, x, now)
				checkHeld(t, x, 3, map[int]Hold{2: {name(0), until}})
				continue
			}
			checkExpire(t, x, now, 2)
			checkExpire(t, x, now)
			checkHeld(t, x, 3, nil)
		}
	}
}

// P18.1: those whose time has come end, rising, whoever holds them; the others stay. No time is kept: an earlier one may be told, and what is held till an earlier one is held till the next Expire.
func TestExpire(t *testing.T) {
	x, a, b := newTable(t, 6), name(0), name(1)
	checkHold(t, x, api.OK, a, 5, 4, 1)
	checkHold(t, x, api.OK, b, 4, 5)
	checkHold(t, x, api.OK, b, 5, 0)
	checkHold(t, x, api.OK, a, 6, 3)
	checkExpire(t, x, 3)
	checkExpire(t, x, 4, 5)
	checkExpire(t, x, 5, 0, 1, 4)
	checkHeld(t, x, 6, map[int]Hold{3: {a, 6}})
	checkHold(t, x, api.OK, b, 2, 2)
	checkHeld(t, x, 6, map[int]Hold{2: {b, 2}, 3: {a, 6}})
	checkHold(t, x, api.ErrLocked, a, 9, 2)
	checkExpire(t, x, 1)
	checkExpire(t, x, 2, 2)
	checkExpire(t, x, 100, 3)
	checkHeld(t, x, 6, nil)
}

// P18.1: a time that was made later counts when it ends.
func TestExpireOfLaterTimes(t *testing.T) {
	x, a := newTable(t, 3), name(0)
	checkHold(t, x, api.OK, a, 5, 0, 1)
	checkHold(t, x, api.OK, a, 7, 1, 2)
	checkHold(t, x, api.OK, a, 6, 2)
	checkExpire(t, x, 5, 0)
	checkExpire(t, x, 6)
	checkExpire(t, x, 7, 1, 2)
}

// P18.1: who asks whether it may comes to hold nothing by that.
func TestMay(t *testing.T) {
	x, a, b := newTable(t, 4), name(0), name(1)
	checkHold(t, x, api.OK, a, 5, 1, 3)
	for range 2 {
		checkMay(t, x, true, a)
		checkMay(t, x, true, b)
		checkMay(t, x, true, a, 0, 1, 2, 3)
		checkMay(t, x, true, b, 0, 2)
		checkMay(t, x, false, b, 0, 1)
		checkMay(t, x, false, b, 3, 2)
		checkMay(t, x, false, a, 1, 4)
		checkMay(t, x, false, a, -1, 1)
	}
	checkHeld(t, x, 4, map[int]Hold{1: {a, 5}, 3: {a, 5}})
}

// P18.1: what isn't there refuses all and tells nothing.
func TestNoTable(t *testing.T) {
	var x *Table
	for range 2 {
		checkHold(t, x, api.ErrArg, name(0), 5)
		checkMay(t, x, false, name(0))
		checkNothing(t, x)
	}
}

// Rule 4: a table that New didn't make has no cells.
func TestZeroTable(t *testing.T) {
	for _, x := range []*Table{{}, new(Table)} {
		checkHold(t, x, api.OK, name(0), 5)
		checkMay(t, x, true, name(0))
		checkNothing(t, x)
	}
}

// checkNothing tells whether no number is a cell, and nothing is held.
func checkNothing(t *testing.T, x *Table) {
	t.Helper()
	for _, cell := range extremes() {
		checkHold(t, x, api.ErrArg, name(0), 5, cell)
		checkMay(t, x, false, name(0), cell)
		if h, ok := x.Of(cell); h != (Hold{}) || ok {
			t.Errorf("Of(%d): %v, %v", cell, h, ok)
		}
	}
	checkFree(t, x, name(0))
	checkFree(t, x, api.Tid{})
	checkExpire(t, x, math.MaxInt)
	if x.Held() != 0 {
		t.Error(x.Held())
	}
}

// Rule 2: lists that were handed in stay as they were, and what is done to them later does nothing.
func TestListsAreNotShared(t *testing.T) {
	x, a, b := newTable(t, 5), name(0), name(1)
	l := []int{3, 1, 3, 0}
	checkHold(t, x, api.OK, a, 5, l...)
	checkHold(t, x, api.ErrLocked, b, 6, l...)
	checkMay(t, x, true, a, l...)
	if !slices.Equal(l, []int{3, 1, 3, 0}) {
		t.Errorf("handed in was [3 1 3 0], it is %v", l)
	}
	for i := range l {
		l[i] = 4
	}
	checkHeld(t, x, 5, map[int]Hold{0: {a, 5}, 1: {a, 5}, 3: {a, 5}})
}

// Rule 2: what was told is nobody else's: neither is it changed later, nor does a change of it do anything.
func TestAnswersAreNotShared(t *testing.T) {
	x, a, b := newTable(t, 5), name(0), name(1)
	checkHold(t, x, api.OK, a, 5, 0, 2)
	checkHold(t, x, api.OK, b, 5, 1, 3)
	freed := x.Free(a)
	expired := x.Expire(5)
	checkHold(t, x, api.OK, a, 6, 4, 1)
	checkFree(t, x, a, 1, 4)
	checkHold(t, x, api.OK, a, 6, 4, 3)
	checkExpire(t, x, 6, 3, 4)
	if !slices.Equal(freed, []int{0, 2}) || !slices.Equal(expired, []int{1, 3}) {
		t.Errorf("told were [0 2] and [1 3], they are %v and %v", freed, expired)
	}
	checkHold(t, x, api.OK, a, 6, 4, 3)
	h, _ := x.Of(3)
	h.Until, h.Tid.Seq = 99, 99
	clear(freed)
	clear(expired)
	checkHeld(t, x, 5, map[int]Hold{3: {a, 6}, 4: {a, 6}})
}

// The tests write the limits as numbers: they are api's.
func TestLimits(t *testing.T) {
	if api.MaxCells != most {
		t.Error(api.MaxCells)
	}
}
