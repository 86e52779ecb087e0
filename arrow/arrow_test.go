package arrow

import (
	"math"
	"slices"
	"testing"

	"remuda/api"
)

const (
	most  = 16 // how many nodes there may be
	cells = 16 // how many cells there may be
)

// wrong is numbers that are no node's and no count's, whatever the tree.
func wrong() []int {
	return []int{0, -1, -2, -16, -17, -1 << 32, math.MinInt, math.MinInt + 1, 17, 18, 32, 33, 1 << 32, 1<<32 + 1, 1 << 62, math.MaxInt - 1, math.MaxInt}
}

// numbers is all that are right in some tree, and wrong ones.
func numbers() []int {
	l := wrong()
	for n := 1; n <= most; n++ {
		l = append(l, n)
	}
	return l
}

func newArrow(t *testing.T, node, nodes, owner int) Arrow {
	t.Helper()
	a, e := New(node, nodes, owner)
	if e != api.OK {
		t.Fatalf("New(%d, %d, %d): %d", node, nodes, owner, e)
	}
	return a
}

func newBook(t *testing.T, node, nodes int, owners ...int) *Book {
	t.Helper()
	b, e := NewBook(node, nodes, owners...)
	if e != api.OK || b == nil {
		t.Fatalf("NewBook(%d, %d, %v): %v, %d", node, nodes, owners, b, e)
	}
	return b
}

// checkWant asks for an arrow's cell: the find goes to, or, if that is 0, none goes; the arrow is home then.
func checkWant(t *testing.T, a *Arrow, to int) {
	t.Helper()
	was := *a
	got, goes := a.Want()
	if got != to || goes != (to != 0) || *a != (Arrow{was.Node, was.Nodes, was.Node}) || !a.Home() {
		t.Errorf("Want of %v: %d, %v, want %d; then it is %v", was, got, goes, to, *a)
	}
}

// checkFind lets a find come that goes on to, or, if that is 0, ends; the arrow points to where it came from then.
func checkFind(t *testing.T, a *Arrow, from, to int) {
	t.Helper()
	was := *a
	got, ends, e := a.Find(from)
	if got != to || ends != (to == 0) || e != api.OK || *a != (Arrow{was.Node, was.Nodes, from}) || a.Home() {
		t.Errorf("Find(%d) of %v: %d, %v, %d, want %d; then it is %v", from, was, got, ends, e, to, *a)
	}
}

// checkNoFind lets a find come from no neighbour.
func checkNoFind(t *testing.T, a *Arrow, from int) {
	t.Helper()
	was := *a
	if to, ends, e := a.Find(from); to != 0 || ends || e != api.ErrArg || *a != was {
		t.Errorf("Find(%d) of %v: %d, %v, %d; then it is %v", from, was, to, ends, e, *a)
	}
}

// checkTo tells whether a book's arrows point just so, and those of no cells nowhere.
func checkTo(t *testing.T, b *Book, want ...int) {
	t.Helper()
	for cell, to := range want {
		if got := b.To(cell); got != to {
			t.Errorf("To(%d) = %d, want %d", cell, got, to)
		}
	}
	for _, cell := range []int{len(want), len(want) + 1, cells, cells + 1, -1, -2, math.MinInt, math.MaxInt, 1 << 32} {
		if got := b.To(cell); got != 0 && (cell < 0 || cell >= len(want)) {
			t.Errorf("To(%d) of %d cells = %d", cell, len(want), got)
		}
	}
}

// checkBook takes what a call at a book answers.
func checkBook(t *testing.T, to int, yes bool, e api.Errno) func(int, bool, api.Errno) {
	return func(gotTo int, gotYes bool, gotE api.Errno) {
		t.Helper()
		if gotTo != to || gotYes != yes || gotE != e {
			t.Errorf("%d, %v, %d, want %d, %v, %d", gotTo, gotYes, gotE, to, yes, e)
		}
	}
}

func checkPoint(t *testing.T, b *Book, cell, to int, want api.Errno) {
	t.Helper()
	if got := b.Point(cell, to); got != want {
		t.Errorf("Point(%d, %d): %d, want %d", cell, to, got, want)
	}
}

// P16.1: the chapter's example, step by step.
func TestExample(t *testing.T) {
	one, two, three := newArrow(t, 1, 3, 2), newArrow(t, 2, 3, 2), newArrow(t, 3, 3, 2)
	if one.To != 2 || !two.Home() || three.To != 1 {
		t.Fatal(one, two, three)
	}
	checkWant(t, &three, 1)
	checkFind(t, &one, 3, 2)
	checkFind(t, &two, 1, 0)
	if one.To != 3 || two.To != 1 || !three.Home() {
		t.Error(one, two, three)
	}
}

// P16.1: arrows written out: down, up, by the root, past it, and home.
func TestNewWrittenOut(t *testing.T) {
	for _, x := range []struct{ node, nodes, owner, to int }{
		{1, 1, 1, 1}, {1, 2, 2, 2}, {2, 2, 1, 1}, {2, 2, 2, 2},
		{1, 3, 3, 3}, {2, 3, 3, 1}, {3, 3, 2, 1},
		{4, 7, 3, 2}, {2, 7, 3, 1}, {1, 7, 4, 2}, {2, 7, 4, 4}, {2, 7, 5, 5}, {3, 7, 7, 7}, {7, 7, 6, 3}, {5, 7, 5, 5},
		{1, 16, 16, 2}, {2, 16, 16, 4}, {4, 16, 16, 8}, {8, 16, 16, 16}, {16, 16, 16, 16}, {16, 16, 1, 8}, {9, 16, 16, 4}, {3, 16, 16, 1}, {1, 16, 15, 3}, {5, 16, 11, 11}, {5, 16, 10, 10}, {5, 16, 9, 2},
	} {
		if a := newArrow(t, x.node, x.nodes, x.owner); a != (Arrow{Node: x.node, Nodes: x.nodes, To: x.to}) {
			t.Errorf("New(%d, %d, %d) = %v, want it to point to %d", x.node, x.nodes, x.owner, a, x.to)
		}
	}
}

// P16.1: every node, every count and every owner, right and wrong ones.
func TestNew(t *testing.T) {
	for _, nodes := range numbers() {
		for _, node := range numbers() {
			for _, owner := range numbers() {
				a, e := New(node, nodes, owner)
				if nodes > most || !among(node, nodes) || !among(owner, nodes) {
					if a != (Arrow{}) || e != api.ErrArg {
						t.Errorf("New(%d, %d, %d): %v, %d", node, nodes, owner, a, e)
					}
					continue
				}
				if a != (Arrow{node, nodes, toward(node, owner)}) || e != api.OK || a.Home() != (node == owner) {
					t.Errorf("New(%d, %d, %d): %v, %d; home: %v", node, nodes, owner, a, e, a.Home())
				}
			}
		}
	}
}

// P16.1: who asks is told where the arrow pointed, once; then it is home, and stays so.
func TestWant(t *testing.T) {
	for nodes := 1; nodes <= most; nodes++ {
		for node := 1; node <= nodes; node++ {
			for owner := 1; owner <= nodes; owner++ {
				a := newArrow(t, node, nodes, owner)
				if node != owner {
					checkWant(t, &a, toward(node, owner))
				}
				checkWant(t, &a, 0)
				checkWant(t, &a, 0)
			}
		}
	}
}

// P16.1: a find from each number, at each arrow: from a neighbour it goes on to where the arrow pointed, were that the neighbour itself, or ends, at home; from anybody else nothing is done.
func TestFind(t *testing.T) {
	for nodes := 1; nodes <= most; nodes++ {
		for node := 1; node <= nodes; node++ {
			for owner := 1; owner <= nodes; owner++ {
				for _, from := range numbers() {
					a := newArrow(t, node, nodes, owner)
					switch {
					case !neighbours(node, from, nodes):
						checkNoFind(t, &a, from)
					case node == owner:
						checkFind(t, &a, from, 0)
					default:
						checkFind(t, &a, from, toward(node, owner))
					}
				}
			}
		}
	}
}

// P16.1: one find behind the other, and askings in between.
func TestTurns(t *testing.T) {
	a := newArrow(t, 2, 5, 3)
	checkFind(t, &a, 4, 1)
	checkFind(t, &a, 5, 4)
	checkFind(t, &a, 1, 5)
	checkFind(t, &a, 1, 1)
	checkNoFind(t, &a, 2)
	checkNoFind(t, &a, 3)
	checkNoFind(t, &a, 6)
	checkWant(t, &a, 1)
	checkNoFind(t, &a, 2)
	checkFind(t, &a, 5, 0)
	checkWant(t, &a, 5)
	checkWant(t, &a, 0)
	checkFind(t, &a, 1, 0)
	checkFind(t, &a, 4, 1)
}

// P16.1: an arrow that is written out is as one that New made; a copy has nothing to do with it.
func TestArrowsAreValues(t *testing.T) {
	a := Arrow{Node: 2, Nodes: 7, To: 5}
	if a != newArrow(t, 2, 7, 5) || a.Home() {
		t.Error(a)
	}
	b := a
	checkWant(t, &a, 5)
	checkFind(t, &b, 1, 5)
	checkFind(t, &a, 4, 0)
	if a.To != 4 || b.To != 1 {
		t.Error(a, b)
	}
	if h := (Arrow{Node: 3, Nodes: 3, To: 3}); !h.Home() {
		t.Error("an arrow that points to its own node isn't home")
	}
}

// Rule 3, P5: what isn't there, and arrows of no tree, take no find; nothing panics.
func TestNoArrow(t *testing.T) {
	var a *Arrow
	if to, goes := a.Want(); to != 0 || goes || a.Home() {
		t.Error(to, goes, a.Home())
	}
	for _, from := range numbers() {
		if to, ends, e := a.Find(from); to != 0 || ends || e != api.ErrArg {
			t.Errorf("Find(%d) of no arrow: %d, %v, %d", from, to, ends, e)
		}
		for _, x := range wrong() {
			for _, b := range []Arrow{{}, {x, 7, 1}, {x, x, x}, {1, 17, 1}, {2, x, 1}} {
				checkNoFind(t, &b, from)
			}
		}
	}
}

// P16.1: an arrow for each cell, in the order of the owners: one, some, as many as there may be.
func TestNewBook(t *testing.T) {
	checkTo(t, newBook(t, 2, 7, 2, 1, 5), 2, 1, 5)
	checkTo(t, newBook(t, 1, 1, 1), 1)
	for nodes := 1; nodes <= most; nodes++ {
		for node := 1; node <= nodes; node++ {
			var owners, to []int
			for cell := range cells {
				owners = append(owners, (cell*5+node)%nodes+1)
				to = append(to, toward(node, owners[cell]))
				checkTo(t, newBook(t, node, nodes, owners...), to...)
			}
		}
	}
}

// P16.1: no owners, too many of them, and one that is wrong, be it the first or the last.
func TestNoBook(t *testing.T) {
	check := func(node, nodes int, owners ...int) {
		t.Helper()
		if b, e := NewBook(node, nodes, owners...); b != nil || e != api.ErrArg {
			t.Errorf("NewBook(%d, %d, %v): %v, %d", node, nodes, owners, b, e)
		}
	}
	check(1, 1)
	check(1, 1, []int{}...)
	ones := func(many int) []int { return slices.Repeat([]int{1}, many) }
	newBook(t, 1, 1, ones(cells)...)
	for _, many := range []int{cells + 1, cells + 2, 2 * cells, 1 << 10, 1 << 16, 1<<16 + 1} {
		check(1, 1, ones(many)...)
	}
	for many := 1; many <= cells; many++ {
		for at := range many {
			for _, owner := range append(wrong(), 8) {
				l := ones(many)
				l[at] = owner
				check(1, 7, l...)
			}
		}
	}
	for _, x := range wrong() {
		check(x, 7, 1, 2)
		check(1, x, 1, 2)
		check(1, x, 1)
		check(x, x, x)
	}
	check(8, 7, 1)
	check(16, 17, 1)
}

// P16.1: a book's calls are those of the cell's arrow; other cells' arrows stay as they are.
func TestBook(t *testing.T) {
	b := newBook(t, 2, 7, 2, 1, 5)
	checkBook(t, 0, false, api.OK)(b.Want(0))
	checkBook(t, 1, true, api.OK)(b.Want(1))
	checkTo(t, b, 2, 2, 5)
	checkBook(t, 0, false, api.OK)(b.Want(1))
	checkTo(t, b, 2, 2, 5)
	checkBook(t, 5, false, api.OK)(b.Find(2, 4))
	checkTo(t, b, 2, 2, 4)
	checkBook(t, 0, true, api.OK)(b.Find(0, 1))
	checkTo(t, b, 1, 2, 4)
	checkBook(t, 0, true, api.OK)(b.Find(1, 5))
	checkBook(t, 5, false, api.OK)(b.Find(1, 4))
	checkBook(t, 4, false, api.OK)(b.Find(1, 4))
	checkTo(t, b, 1, 4, 4)
	checkBook(t, 0, false, api.ErrArg)(b.Find(1, 2))
	checkBook(t, 0, false, api.ErrArg)(b.Find(1, 3))
	checkBook(t, 0, false, api.ErrArg)(b.Find(1, 8))
	checkBook(t, 0, false, api.ErrArg)(b.Find(1, 0))
	checkTo(t, b, 1, 4, 4)
}

// P16.1: an arrow points along the tree to any node, from wherever it pointed; home, to its own.
func TestPoint(t *testing.T) {
	for nodes := 1; nodes <= most; nodes++ {
		for node := 1; node <= nodes; node++ {
			for to := 1; to <= nodes; to++ {
				for was := 1; was <= nodes; was++ {
					b := newBook(t, node, nodes, was, was)
					checkPoint(t, b, 1, to, api.OK)
					checkTo(t, b, toward(node, was), toward(node, to))
					want := checkBook(t, toward(node, to), true, api.OK)
					if to == node {
						want = checkBook(t, 0, false, api.OK)
					}
					want(b.Want(1))
				}
			}
		}
	}
}

// P16.1: cells and nodes that there aren't are refused, and leave all as it was.
func TestBookRefuses(t *testing.T) {
	for many := 1; many <= cells; many++ {
		owners := slices.Repeat([]int{3, 2, 4}, cells)[:many]
		to := slices.Repeat([]int{1, 2, 4}, cells)[:many]
		b := newBook(t, 2, 5, owners...)
		for _, cell := range append(wrong(), many, many+1) {
			if cell >= 0 && cell < many {
				continue
			}
			checkBook(t, 0, false, api.ErrArg)(b.Want(cell))
			for _, n := range []int{1, 2, 4, 0, 17} {
				checkBook(t, 0, false, api.ErrArg)(b.Find(cell, n))
				checkPoint(t, b, cell, n, api.ErrArg)
			}
		}
		for cell := range many {
			for _, n := range append(wrong(), 6, 7) {
				checkBook(t, 0, false, api.ErrArg)(b.Find(cell, n))
				checkPoint(t, b, cell, n, api.ErrArg)
			}
			checkBook(t, 0, false, api.ErrArg)(b.Find(cell, 2))
			checkBook(t, 0, false, api.ErrArg)(b.Find(cell, 3))
		}
		checkTo(t, b, to...)
	}
}

// P16.1: a book that isn't there, or that NewBook didn't make, has no cells.
func TestBookWithoutCells(t *testing.T) {
	for _, b := range []*Book{nil, {}, new(Book)} {
		for _, cell := range numbers() {
			checkBook(t, 0, false, api.ErrArg)(b.Want(cell))
			for _, n := range []int{1, 2, 0, 17} {
				checkBook(t, 0, false, api.ErrArg)(b.Find(cell, n))
				checkPoint(t, b, cell, n, api.ErrArg)
			}
		}
		checkTo(t, b)
	}
}

// Rule 2: the owners that were handed in stay as they were, and what is done to them later does nothing; two books have nothing to do with one another.
func TestOwnersAreNotShared(t *testing.T) {
	room := make([]int, 3, 10)
	copy(room, []int{1, 2, 5})
	b, other := newBook(t, 2, 7, room...), newBook(t, 2, 7, room...)
	checkBook(t, 1, true, api.OK)(b.Want(0))
	checkBook(t, 0, true, api.OK)(b.Find(1, 4))
	checkPoint(t, b, 2, 3, api.OK)
	if !slices.Equal(room, []int{1, 2, 5}) {
		t.Error("handed in was 1, 2, 5; it is", room)
	}
	_ = append(room, 6)
	for i := range room {
		room[i] = 3
	}
	checkTo(t, b, 2, 4, 1)
	checkTo(t, other, 1, 2, 5)
}

// The tests write the limits as numbers: they are api's.
func TestLimits(t *testing.T) {
	if api.MaxNodes != most || api.MaxCells != cells {
		t.Error(api.MaxNodes, api.MaxCells)
	}
}
