package cache

import (
	"math"
	"slices"
	"testing"

	"remuda/api"
)

const most = 16 // for how many entries there may be room

// entry is one of a cell and a version, with a value and a node that tell them.
func entry(cell, version int) Entry {
	return Entry{Cell: cell, Version: version, Value: cell*1000 + version, From: cell%16 + 1}
}

// firsts is entries of these cells, all of version 1.
func firsts(cells ...int) []Entry {
	var l []Entry
	for _, cell := range cells {
		l = append(l, entry(cell, 1))
	}
	return l
}

// upTo is the numbers from 0 on.
func upTo(many int) []int {
	var l []int
	for i := range many {
		l = append(l, i)
	}
	return l
}

func newCache(t *testing.T, room int) *Cache {
	t.Helper()
	c, e := New(room)
	if c == nil || e != api.OK {
		t.Fatalf("New(%d): %v, %d", room, c, e)
	}
	return c
}

// filled is a cache into which these were put, all of which it took.
func filled(t *testing.T, room int, l ...Entry) *Cache {
	t.Helper()
	c := newCache(t, room)
	checkPut(t, c, len(l), l...)
	return c
}

// cellsOf is the cells that are there, in order.
func cellsOf(c *Cache) []int {
	var l []int
	for _, e := range c.All() {
		l = append(l, e.Cell)
	}
	return l
}

func checkPut(t *testing.T, c *Cache, want int, l ...Entry) {
	t.Helper()
	if got := c.Put(l...); got != want {
		t.Errorf("Put%v: %d, want %d", l, got, want)
	}
}

// checkAll tells whether just these are there, in that order, and each is told by Peek too.
func checkAll(t *testing.T, c *Cache, want ...Entry) {
	t.Helper()
	for range 2 {
		if got := c.All(); !slices.Equal(got, want) {
			t.Errorf("All are %v, want %v", got, want)
		}
		for _, e := range want {
			if got, ok := c.Peek(e.Cell); got != e || !ok {
				t.Errorf("Peek(%d): %v, %v, want %v", e.Cell, got, ok, e)
			}
		}
	}
}

// checkNone tells whether a cell has no entry, which changes nothing.
func checkNone(t *testing.T, c *Cache, cell int) {
	t.Helper()
	was := c.All()
	if e, ok := c.Get(cell); e != (Entry{}) || ok {
		t.Errorf("Get(%d): %v, %v", cell, e, ok)
	}
	if e, ok := c.Peek(cell); e != (Entry{}) || ok {
		t.Errorf("Peek(%d): %v, %v", cell, e, ok)
	}
	if c.Stale(cell, math.MaxInt) {
		t.Errorf("Stale of %d, which isn't there", cell)
	}
	checkDrop(t, c, 0, cell, cell)
	checkAll(t, c, was...)
}

// checkGet uses a cell's entry, which is the last one then.
func checkGet(t *testing.T, c *Cache, want Entry) {
	t.Helper()
	many := len(c.All())
	if e, ok := c.Get(want.Cell); e != want || !ok {
		t.Errorf("Get(%d): %v, %v, want %v", want.Cell, e, ok, want)
	}
	if l := c.All(); len(l) != many || l[many-1] != want {
		t.Errorf("behind Get(%d): %v", want.Cell, l)
	}
}

func checkStale(t *testing.T, c *Cache, cell, version int, want bool) {
	t.Helper()
	if got := c.Stale(cell, version); got != want {
		t.Errorf("Stale(%d, %d): %v", cell, version, got)
	}
}

func checkDrop(t *testing.T, c *Cache, want int, l ...int) {
	t.Helper()
	if got := c.Drop(l...); got != want {
		t.Errorf("Drop%v: %d, want %d", l, got, want)
	}
}

// extremes is numbers at the edges of what an int can be, of 32 bits, and of what may be.
func extremes() []int {
	return []int{math.MinInt, math.MinInt + 1, -api.MaxNum, -1 << 32, -1<<31 - 1, -2, -1, 0, 1, 15, 16, 17, 1<<31 - 1, 1 << 31, 1<<32 - 1, 1 << 32, api.MaxNum, api.MaxNum + 1, math.MaxInt - 1, math.MaxInt}
}

// P17.1: the chapter's example.
func TestExample(t *testing.T) {
	c := filled(t, 2, firsts(1, 2)...)
	checkGet(t, c, entry(1, 1))
	checkPut(t, c, 1, entry(3, 1))
	checkNone(t, c, 2)
	checkAll(t, c, firsts(1, 3)...)
}

// P17.1: there is room for 1 to 16 entries, and for just so many; nothing is in it at first.
func TestNew(t *testing.T) {
	for room := 1; room <= most; room++ {
		c := newCache(t, room)
		checkAll(t, c)
		for _, cell := range extremes() {
			checkNone(t, c, cell)
		}
		for cell := range 40 {
			checkPut(t, c, 1, entry(cell, 1))
			checkAll(t, c, firsts(upTo(cell + 1)[max(0, cell+1-room):]...)...)
		}
	}
	for _, room := range slices.Concat(extremes(), []int{-16, 18, 32, 256, 1<<32 + 1, 1<<32 + 16}) {
		if c, e := New(room); (room < 1 || room > most) && (c != nil || e != api.ErrArg) {
			t.Errorf("New(%d): %v, %d", room, c, e)
		}
	}
}

// P17.1: two caches have nothing to do with one another.
func TestTwoCaches(t *testing.T) {
	a, b := filled(t, 3, firsts(1, 2)...), filled(t, 3, firsts(2, 3)...)
	checkGet(t, a, entry(1, 1))
	checkPut(t, b, 1, entry(2, 5))
	checkStale(t, b, 3, 2, true)
	checkAll(t, a, firsts(2, 1)...)
	checkAll(t, b, entry(2, 5))
	b.Clear()
	checkAll(t, a, firsts(2, 1)...)
}

// P17.1: of each pair of versions, the second one is taken unless it is the lesser; then all that it tells takes the place, and it is the one used last; else nothing changes, the order neither.
func TestPutOverAnother(t *testing.T) {
	for _, old := range extremes() {
		for _, fresh := range extremes() {
			c := newCache(t, 3)
			was, is := Entry{5, old, 50, 1}, Entry{5, fresh, 51, 2}
			checkPut(t, c, 3, was, entry(6, 1), entry(7, 1))
			if fresh < old {
				checkPut(t, c, 0, is)
				checkAll(t, c, was, entry(6, 1), entry(7, 1))
				continue
			}
			checkPut(t, c, 1, is)
			checkAll(t, c, entry(6, 1), entry(7, 1), is)
		}
	}
}

// P17.1: what is put again as it was is taken, and used; from each place.
func TestPutTheSame(t *testing.T) {
	for room := 1; room <= most; room++ {
		for cell := range room {
			c := filled(t, room, firsts(upTo(room)...)...)
			checkPut(t, c, 1, entry(cell, 1))
			others := slices.DeleteFunc(upTo(room), func(x int) bool { return x == cell })
			checkAll(t, c, firsts(append(others, cell)...)...)
		}
	}
}

// P17.1: entries differ by their cells alone, whatever number these are; each is told as it was put.
func TestCells(t *testing.T) {
	for _, a := range extremes() {
		c := newCache(t, 2)
		checkPut(t, c, 1, Entry{a, 1, 2, 3})
		for _, b := range extremes() {
			if a == b {
				continue
			}
			checkNone(t, c, b)
			checkPut(t, c, 1, Entry{b, 1, 2, 3})
			checkAll(t, c, Entry{a, 1, 2, 3}, Entry{b, 1, 2, 3})
			checkDrop(t, c, 1, b)
			checkAll(t, c, Entry{a, 1, 2, 3})
		}
		for _, x := range extremes() {
			checkPut(t, c, 1, Entry{a, 1, x, 3})
			checkAll(t, c, Entry{a, 1, x, 3})
			checkPut(t, c, 1, Entry{a, 1, 2, x})
			checkAll(t, c, Entry{a, 1, 2, x})
		}
	}
}

// P17.1: where there is no room, the one whose use is the eldest goes, and only for one that is of none of the cells.
func TestFull(t *testing.T) {
	for room := 2; room <= most; room++ {
		c := filled(t, room, firsts(upTo(room)...)...)
		checkPut(t, c, 0, entry(0, 0), entry(room-1, 0))
		checkPut(t, c, 1, entry(1, 2))
		want := slices.Concat(firsts(0), firsts(upTo(room)[2:]...), []Entry{entry(1, 2)})
		checkAll(t, c, want...)
		checkPut(t, c, 1, entry(room, -7))
		want = append(want[1:], entry(room, -7))
		checkAll(t, c, want...)
		checkPut(t, c, 1, entry(0, 0))
		checkAll(t, c, append(want[1:], entry(0, 0))...)
	}
}

// P17.1: what isn't taken isn't used: it goes as the eldest one all the same.
func TestRefusedIsNoUse(t *testing.T) {
	c := filled(t, 2, entry(1, 5), entry(2, 5))
	checkPut(t, c, 0, entry(1, 4))
	checkPut(t, c, 1, entry(3, 1))
	checkAll(t, c, entry(2, 5), entry(3, 1))
}

// P17.1: entry by entry: what comes first in a list counts for what comes behind it, also what goes again.
func TestPutLists(t *testing.T) {
	for _, x := range []struct {
		room, many int
		l, all     []Entry
	}{
		{3, 0, nil, nil},
		{3, 0, []Entry{}, nil},
		{3, 3, firsts(3, 1, 2), firsts(3, 1, 2)},
		{3, 3, firsts(3, 1, 3), firsts(1, 3)},
		{3, 1, []Entry{entry(1, 2), entry(1, 1)}, []Entry{entry(1, 2)}},
		{3, 2, []Entry{entry(1, 1), entry(1, 2)}, []Entry{entry(1, 2)}},
		{3, 3, []Entry{entry(1, 1), entry(2, 9), entry(1, 2), entry(2, 8)}, []Entry{entry(2, 9), entry(1, 2)}},
		{2, 5, firsts(1, 2, 3, 4, 5), firsts(4, 5)},
		{2, 4, []Entry{entry(1, 9), entry(2, 9), entry(3, 9), entry(1, 1)}, []Entry{entry(3, 9), entry(1, 1)}},
		{1, 3, []Entry{entry(1, 9), entry(2, 1), entry(1, 1), entry(1, 0)}, []Entry{entry(1, 1)}},
		{2, 4, firsts(1, 2, 1, 3), firsts(1, 3)},
		{2, 3, []Entry{entry(1, 2), entry(2, 2), entry(1, 1), entry(3, 2)}, []Entry{entry(2, 2), entry(3, 2)}},
	} {
		c, one := newCache(t, x.room), newCache(t, x.room)
		checkPut(t, c, x.many, x.l...)
		checkAll(t, c, x.all...)
		many := 0
		for _, e := range x.l {
			many += one.Put(e)
		}
		if many != x.many || !slices.Equal(one.All(), c.All()) {
			t.Errorf("%v one by one: %d were taken, want %d: %v", x.l, many, x.many, one.All())
		}
	}
}

// P17.1: each use puts an entry last, from each place; the others keep their order, and go by it.
func TestGet(t *testing.T) {
	for room := 1; room <= most; room++ {
		for cell := range room {
			c := filled(t, room, firsts(upTo(room)...)...)
			order := append(slices.DeleteFunc(upTo(room), func(x int) bool { return x == cell }), cell)
			for range 2 {
				checkGet(t, c, entry(cell, 1))
				checkAll(t, c, firsts(order...)...)
			}
			checkNone(t, c, room)
			for i := range order {
				checkPut(t, c, 1, entry(100+i, 1))
				checkNone(t, c, order[i])
			}
		}
	}
}

// P17.1: who only looks doesn't use it.
func TestPeek(t *testing.T) {
	c := filled(t, 2, firsts(1, 2)...)
	for range 3 {
		if e, ok := c.Peek(1); e != entry(1, 1) || !ok {
			t.Error(e, ok)
		}
		checkAll(t, c, firsts(1, 2)...)
	}
	checkPut(t, c, 1, entry(3, 1))
	checkNone(t, c, 1)
}

// P17.1: of each pair of versions: an entry goes if its version is the lesser one, else nothing changes, the order neither.
func TestStale(t *testing.T) {
	for _, has := range extremes() {
		for _, version := range extremes() {
			c := filled(t, 3, entry(1, 1), Entry{2, has, 3, 4}, entry(3, 1))
			checkStale(t, c, 2, version, has < version)
			if has < version {
				checkAll(t, c, firsts(1, 3)...)
				checkNone(t, c, 2)
				continue
			}
			checkAll(t, c, entry(1, 1), Entry{2, has, 3, 4}, entry(3, 1))
			checkPut(t, c, 2, firsts(5, 6)...)
			checkNone(t, c, 2)
		}
	}
}

// P17.1: behind what went, by whichever way, one of a lesser version is taken, and there is room again.
func TestGone(t *testing.T) {
	for i, gone := range []func(c *Cache){
		func(c *Cache) { checkStale(t, c, 1, 10, true) },
		func(c *Cache) { checkDrop(t, c, 1, 1) },
		func(c *Cache) { checkPut(t, c, 1, entry(2, 9)); checkDrop(t, c, 1, 2) },
		func(c *Cache) { c.Clear(); checkPut(t, c, 1, entry(3, 1)) },
	} {
		c := filled(t, 2, entry(1, 9), entry(3, 1))
		gone(c)
		checkNone(t, c, 1)
		checkPut(t, c, 1, entry(1, 2))
		checkAll(t, c, entry(3, 1), entry(1, 2))
		if t.Failed() {
			t.Fatalf("the way %d", i)
		}
	}
}

// P17.1: the entries of the cells that are named go, each once; the others keep their order.
func TestDrop(t *testing.T) {
	for _, x := range []struct {
		l    []int
		many int
		left []int
	}{
		{nil, 0, []int{4, 2, 7, 0}},
		{[]int{}, 0, []int{4, 2, 7, 0}},
		{[]int{4}, 1, []int{2, 7, 0}},
		{[]int{0}, 1, []int{4, 2, 7}},
		{[]int{2}, 1, []int{4, 7, 0}},
		{[]int{7, 7, 7}, 1, []int{4, 2, 0}},
		{[]int{0, 4}, 2, []int{2, 7}},
		{[]int{5, 2, -1, 7, 1 << 32, 1<<32 + 4}, 2, []int{4, 0}},
		{[]int{2, 0, 7}, 3, []int{4}},
		{[]int{0, 7, 2, 4, 0, 7, 2, 4}, 4, nil},
		{extremes(), 1, []int{4, 2, 7}},
		{upTo(100), 4, nil},
	} {
		for _, room := range []int{4, 5, most} {
			c := filled(t, room, firsts(4, 2, 7, 0)...)
			checkDrop(t, c, x.many, x.l...)
			checkAll(t, c, firsts(x.left...)...)
			checkDrop(t, c, 0, x.l...)
			checkAll(t, c, firsts(x.left...)...)
		}
	}
}

// P17.1: all go; there is as much room as ahead of it, once and again.
func TestClear(t *testing.T) {
	for room := 1; room <= most; room++ {
		c := newCache(t, room)
		for range 3 {
			c.Clear()
			checkAll(t, c)
			for cell := range room {
				checkNone(t, c, cell)
			}
			checkPut(t, c, room+1, firsts(upTo(room+1)...)...)
			checkAll(t, c, firsts(upTo(room + 1)[1:]...)...)
			c.Clear()
		}
	}
}

// P17.1: what isn't there, and what New didn't make, takes nothing and tells nothing.
func TestNoCache(t *testing.T) {
	for _, c := range []*Cache{nil, {}, new(Cache)} {
		for range 2 {
			checkPut(t, c, 0)
			checkPut(t, c, 0, firsts(0, 1, 2)...)
			for _, cell := range extremes() {
				checkNone(t, c, cell)
				checkPut(t, c, 0, entry(cell, 1))
			}
			checkDrop(t, c, 0)
			checkAll(t, c)
			c.Clear()
		}
	}
}

// Rule 2: lists that were handed in stay as they were, and what is done to them later does nothing.
func TestListsAreNotShared(t *testing.T) {
	l := []Entry{entry(3, 1), entry(1, 2), entry(1, 1), entry(2, 1), entry(4, 1)}
	was := slices.Clone(l)
	c := newCache(t, 3)
	checkPut(t, c, 4, l...)
	want := []Entry{entry(1, 2), entry(2, 1), entry(4, 1)}
	if !slices.Equal(l, was) {
		t.Errorf("handed in was %v, it is %v", was, l)
	}
	clear(l)
	checkAll(t, c, want...)

	cells := []int{4, 9, 1, 4}
	checkDrop(t, c, 2, cells...)
	if !slices.Equal(cells, []int{4, 9, 1, 4}) {
		t.Error(cells)
	}
	checkAll(t, c, entry(2, 1))
}

// Rule 2: what was told is nobody else's: neither is it changed later, nor does a change of it do anything.
func TestAnswersAreNotShared(t *testing.T) {
	c := filled(t, 3, firsts(1, 2, 3)...)
	a, b := c.All(), c.All()
	clear(a)
	checkAll(t, c, firsts(1, 2, 3)...)
	_ = append(c.All(), entry(9, 9))
	checkGet(t, c, entry(1, 1))
	checkPut(t, c, 2, entry(2, 2), entry(4, 1))
	checkDrop(t, c, 1, 1)
	c.Clear()
	checkPut(t, c, 3, firsts(7, 8, 9)...)
	if !slices.Equal(b, firsts(1, 2, 3)) {
		t.Errorf("told was %v, it is %v", firsts(1, 2, 3), b)
	}
	checkPut(t, c, 3, c.All()...)
	checkAll(t, c, firsts(7, 8, 9)...)
}

// The tests write the limits as numbers: they are api's.
func TestLimits(t *testing.T) {
	if api.MaxCells != most {
		t.Error(api.MaxCells)
	}
}
