package item

import (
	"math"
	"math/rand/v2"
	"slices"
	"testing"

	"remuda/api"
)

func chance() *rand.Rand { return rand.New(rand.NewPCG(1, 2)) }

// anyNum is a number of any kind: small ones, so that some are the same, edges, and any others.
func anyNum(r *rand.Rand) int {
	switch r.IntN(4) {
	case 0:
		edges := []int{math.MinInt, -1, 0, 1, api.MaxNodes, api.MaxNodes + 1, api.MaxNum - 1, api.MaxNum, api.MaxNum + 1, math.MaxInt}
		return edges[r.IntN(len(edges))]
	case 1:
		return int(r.Uint64()) >> r.IntN(64)
	}
	return r.IntN(5) - 1
}

func anyTid(r *rand.Rand) api.Tid {
	return api.Tid{Node: anyNum(r), Epoch: anyNum(r), Seq: anyNum(r)}
}

func anyItem(r *rand.Rand) api.Item {
	return api.Item{Cell: anyNum(r), Version: anyNum(r), Value: anyNum(r), Write: r.IntN(2) == 0, New: anyNum(r)}
}

func anyItems(r *rand.Rand, n int) []api.Item {
	var l []api.Item
	for range n {
		l = append(l, anyItem(r))
	}
	return l
}

func anyNodes(r *rand.Rand, n int) []int {
	var l []int
	for range n {
		l = append(l, anyNum(r))
	}
	return l
}

// cells is an item a cell, told apart by their values, which are from from on.
func cells(from int, l ...int) []api.Item {
	var items []api.Item
	for i, c := range l {
		items = append(items, api.Item{Cell: c, Value: from + i})
	}
	return items
}

// upTo is the numbers from from up to to.
func upTo(from, to int) []int {
	var l []int
	for n := from; n <= to; n++ {
		l = append(l, n)
	}
	return l
}

func checkOrder(t *testing.T, a, b api.Tid, want int) {
	t.Helper()
	if Order(a, b) != want || Order(b, a) != -want {
		t.Errorf("Order of %v and %v: %d, and the other way %d; want %d", a, b, Order(a, b), Order(b, a), want)
	}
}

func checkItems(t *testing.T, what string, got []api.Item, want ...api.Item) {
	t.Helper()
	if !slices.Equal(got, want) {
		t.Errorf("%s: %v, want %v", what, got, want)
	}
}

// P6.1: names that differ in one number alone, whatever the others are, stand by it.
func TestOrderByOneNumber(t *testing.T) {
	rising := []int{math.MinInt, -api.MaxNum, -2, -1, 0, 1, 2, 10, api.MaxNodes, 255, 256, api.MaxNum, math.MaxInt}
	for i, x := range rising {
		for k, y := range rising {
			want := 0
			if i < k {
				want = -1
			} else if i > k {
				want = 1
			}
			for _, same := range []int{math.MinInt, -1, 0, 3, math.MaxInt} {
				checkOrder(t, api.Tid{Node: x, Epoch: same, Seq: same}, api.Tid{Node: y, Epoch: same, Seq: same}, want)
				checkOrder(t, api.Tid{Node: same, Epoch: x, Seq: same}, api.Tid{Node: same, Epoch: y, Seq: same}, want)
				checkOrder(t, api.Tid{Node: same, Epoch: same, Seq: x}, api.Tid{Node: same, Epoch: same, Seq: y}, want)
			}
		}
	}
}

// P6.1: of two numbers or three in which names differ, the first one counts.
func TestOrderByTheFirstNumber(t *testing.T) {
	for _, x := range []struct{ ahead, behind api.Tid }{
		{api.Tid{Node: 1, Epoch: 2, Seq: 3}, api.Tid{Node: 2, Epoch: 1, Seq: 3}},
		{api.Tid{Node: 1, Epoch: 2, Seq: 3}, api.Tid{Node: 2, Epoch: 2, Seq: 1}},
		{api.Tid{Node: 1, Epoch: 2, Seq: 3}, api.Tid{Node: 1, Epoch: 3, Seq: 1}},
		{api.Tid{Node: 1, Epoch: 2, Seq: 3}, api.Tid{Node: 2, Epoch: 1, Seq: 1}},
		{api.Tid{Node: 1, Epoch: 2, Seq: 3}, api.Tid{Node: 2, Epoch: 3, Seq: 1}},
		{api.Tid{Node: 1, Epoch: 2, Seq: 3}, api.Tid{Node: 2, Epoch: 1, Seq: 4}},
		{api.Tid{Node: 1, Epoch: 2, Seq: 3}, api.Tid{Node: 2, Epoch: 3, Seq: 4}},
		{api.Tid{Node: -2, Epoch: 9, Seq: 9}, api.Tid{Node: -1, Epoch: -9, Seq: -9}},
		{api.Tid{Node: -1, Epoch: -2, Seq: 9}, api.Tid{Node: -1, Epoch: -1, Seq: -9}},
		{api.Tid{Node: math.MinInt, Epoch: math.MaxInt, Seq: 0}, api.Tid{Node: math.MaxInt, Epoch: math.MinInt, Seq: 0}},
		{api.Tid{Node: 7, Epoch: math.MinInt, Seq: math.MaxInt}, api.Tid{Node: 7, Epoch: math.MaxInt, Seq: math.MinInt}},
	} {
		checkOrder(t, x.ahead, x.behind, -1)
	}
}

// P6.1: any names, held against their numbers one by one.
func TestOrderOfAnyNames(t *testing.T) {
	r := chance()
	for range 50000 {
		a, b := anyTid(r), anyTid(r)
		checkOrder(t, a, a, 0)
		checkOrder(t, a, b, slices.Compare([]int{a.Node, a.Epoch, a.Seq}, []int{b.Node, b.Epoch, b.Seq}))
	}
}

// P6.1: each number of a name at its edges, and one beyond each.
func TestRightTid(t *testing.T) {
	check := func(want bool, x api.Tid) {
		t.Helper()
		if RightTid(x) != want {
			t.Errorf("RightTid of %v: %v", x, !want)
		}
	}
	for _, n := range []int{1, 2, 15, 16} {
		check(true, api.Tid{Node: n, Epoch: 1, Seq: 1})
		check(true, api.Tid{Node: n, Epoch: 1 << 40, Seq: 1 << 40})
	}
	for _, n := range []int{math.MinInt, -1, 0, 17, 256 + 1, 1 << 40, 1<<32 + 1, math.MaxInt} {
		check(false, api.Tid{Node: n, Epoch: 1, Seq: 1})
	}
	for _, n := range []int{1, 17, 1<<40 - 1, 1 << 40} {
		check(true, api.Tid{Node: 1, Epoch: n, Seq: 1})
		check(true, api.Tid{Node: 16, Epoch: 1, Seq: n})
	}
	for _, n := range []int{math.MinInt, -1 << 40, -1, 0, 1<<40 + 1, 1 << 41, math.MaxInt} {
		check(false, api.Tid{Node: 1, Epoch: n, Seq: 1})
		check(false, api.Tid{Node: 1, Epoch: 1, Seq: n})
	}
	check(false, api.Tid{})
}

func checkRightItems(t *testing.T, want bool, l ...api.Item) {
	t.Helper()
	if RightItems(l...) != want {
		t.Errorf("RightItems of %v: %v", l, !want)
	}
}

// P6.1: each number of an item at its edges, and one beyond each, wherever it stands.
func TestRightItemsNumbers(t *testing.T) {
	check := func(want bool, x api.Item) {
		t.Helper()
		checkRightItems(t, want, x)
		if 0 < x.Cell && x.Cell < 15 { // so that the cells rise
			checkRightItems(t, want, api.Item{Cell: 0}, x, api.Item{Cell: 15})
			checkRightItems(t, want, api.Item{Cell: 0}, x)
			checkRightItems(t, want, x, api.Item{Cell: 15})
		}
	}
	for _, n := range []int{0, 1, 7, 14, 15} {
		check(true, api.Item{Cell: n})
	}
	for _, n := range []int{math.MinInt, -1, 16, 17, 256, 1 << 40, math.MaxInt} {
		check(false, api.Item{Cell: n})
	}
	for _, n := range []int{0, 1, 1<<40 - 2, 1<<40 - 1} {
		check(true, api.Item{Cell: 3, Version: n})
		check(true, api.Item{Cell: 3, Version: n, Write: true})
	}
	for _, n := range []int{math.MinInt, -1, 1 << 40, 1<<40 + 1, math.MaxInt} {
		check(false, api.Item{Cell: 3, Version: n})
		check(false, api.Item{Cell: 3, Version: n, Write: true})
	}
	for _, n := range []int{math.MinInt, -1 << 40, -1, 1, 1 << 40, math.MaxInt} {
		check(true, api.Item{Cell: 3, Value: n})
		check(true, api.Item{Cell: 3, Value: n, Write: true, New: n})
		check(false, api.Item{Cell: 3, New: n})
		check(false, api.Item{Cell: 3, Value: n, New: n})
	}
	check(true, api.Item{Cell: 3, Value: 5, Write: true})
}

// P6.1: how many items there are, and how their cells stand.
func TestRightItemsCells(t *testing.T) {
	checkRightItems(t, false)
	checkRightItems(t, false, []api.Item{}...)
	for _, x := range []struct {
		want  bool
		cells []int
	}{
		{true, []int{0}},
		{true, []int{15}},
		{true, []int{0, 1}},
		{true, []int{0, 15}},
		{true, []int{2, 5, 9}},
		{true, upTo(0, 14)},
		{true, upTo(0, 15)},
		{false, upTo(0, 16)},
		{false, upTo(-1, 15)},
		{false, upTo(-1, 3)},
		{false, upTo(13, 16)},
		{false, []int{0, 0}},
		{false, []int{15, 15}},
		{false, []int{1, 0}},
		{false, []int{15, 0}},
		{false, []int{2, 5, 5}},
		{false, []int{2, 2, 5}},
		{false, []int{2, 5, 4}},
		{false, []int{5, 2, 6}},
		{false, []int{2, 5, 2}},
		{false, append(upTo(0, 15), 15)},
		{false, append(upTo(0, 14), 14)},
		{false, append(upTo(0, 14), 0)},
	} {
		checkRightItems(t, x.want, cells(1, x.cells...)...)
	}
}

// P6.1: nodes: none, at the edges, one beyond each, nodes that stand still, or fall.
func TestRightNodes(t *testing.T) {
	for _, x := range []struct {
		want  bool
		nodes []int
	}{
		{true, nil},
		{true, []int{}},
		{true, []int{1}},
		{true, []int{16}},
		{true, []int{1, 16}},
		{true, []int{15, 16}},
		{true, []int{2, 5, 9}},
		{true, upTo(1, 16)},
		{false, []int{0}},
		{false, []int{17}},
		{false, []int{-1}},
		{false, []int{math.MinInt}},
		{false, []int{math.MaxInt}},
		{false, []int{256 + 1}},
		{false, []int{0, 1}},
		{false, []int{-1, 1}},
		{false, []int{1, 17}},
		{false, []int{16, 17}},
		{false, upTo(0, 16)},
		{false, upTo(1, 17)},
		{false, []int{1, 1}},
		{false, []int{16, 16}},
		{false, []int{2, 1}},
		{false, []int{16, 1}},
		{false, []int{2, 5, 5}},
		{false, []int{2, 2, 5}},
		{false, []int{2, 5, 4}},
		{false, []int{5, 2, 6}},
		{false, []int{2, 5, 2}},
		{false, append(upTo(1, 16), 16)},
	} {
		if RightNodes(x.nodes...) != x.want {
			t.Errorf("RightNodes of %v: %v", x.nodes, !x.want)
		}
	}
}

// P6.1: Find of a cell that is there, there twice, not there, and in none.
func TestFind(t *testing.T) {
	for _, x := range []struct {
		cells      []int
		cell, want int
	}{
		{nil, 0, -1},
		{[]int{}, 0, -1},
		{[]int{0}, 0, 0},
		{[]int{0}, 1, -1},
		{[]int{0}, -1, -1},
		{[]int{2, 5, 9}, 2, 0},
		{[]int{2, 5, 9}, 5, 1},
		{[]int{2, 5, 9}, 9, 2},
		{[]int{2, 5, 9}, 0, -1},
		{[]int{2, 5, 9}, 3, -1},
		{[]int{2, 5, 9}, 10, -1},
		{[]int{2, 5, 5, 9}, 5, 1},
		{[]int{5, 2, 5}, 5, 0},
		{[]int{9, 5, 2}, 9, 0},
		{[]int{9, 5, 2}, 2, 2},
		{[]int{3, -4, 99, math.MinInt}, -4, 1},
		{[]int{3, -4, 99, math.MinInt}, 99, 2},
		{[]int{3, -4, 99, math.MinInt}, math.MinInt, 3},
		{upTo(0, 15), 15, 15},
		{upTo(0, 40), 40, 40},
	} {
		if got := Find(cells(20, x.cells...), x.cell); got != x.want {
			t.Errorf("Find of %d among the cells %v: %d, want %d", x.cell, x.cells, got, x.want)
		}
	}
}

// P6.1: lists of which none share a cell.
func TestJoinOfOtherCells(t *testing.T) {
	checkItems(t, "no list", Join())
	checkItems(t, "no list, as a list", Join([][]api.Item{}...))
	checkItems(t, "empty lists", Join(nil, []api.Item{}, nil))
	checkItems(t, "one list", Join(cells(1, 2, 5)), cells(1, 2, 5)...)
	checkItems(t, "a list among empty ones", Join(nil, cells(1, 2, 5), []api.Item{}), cells(1, 2, 5)...)
	checkItems(t, "a list that falls", Join(cells(1, 9, 5, 2)), api.Item{Cell: 2, Value: 3}, api.Item{Cell: 5, Value: 2}, api.Item{Cell: 9, Value: 1})
	checkItems(t, "two lists", Join(cells(1, 2, 5), cells(11, 0, 3, 9)), api.Item{Cell: 0, Value: 11}, api.Item{Cell: 2, Value: 1}, api.Item{Cell: 3, Value: 12}, api.Item{Cell: 5, Value: 2}, api.Item{Cell: 9, Value: 13})
	checkItems(t, "cells that aren't right", Join(cells(1, 16, -1), cells(3, math.MinInt, math.MaxInt, 99)), api.Item{Cell: math.MinInt, Value: 3}, api.Item{Cell: -1, Value: 2}, api.Item{Cell: 16, Value: 1}, api.Item{Cell: 99, Value: 5}, api.Item{Cell: math.MaxInt, Value: 4})
	checkItems(t, "more than MaxCells", Join(cells(10, upTo(0, 9)...), cells(20, upTo(10, 19)...)), cells(10, upTo(0, 19)...)...)
}

// P6.1: of items of one cell the first one of the eldest list stands for all, whole as it is.
func TestJoinOfSharedCells(t *testing.T) {
	checkItems(t, "twice in one list", Join(cells(1, 4, 4)), cells(1, 4)...)
	checkItems(t, "often in one list", Join(cells(1, 4, 2, 4, 2, 4)), api.Item{Cell: 2, Value: 2}, api.Item{Cell: 4, Value: 1})
	checkItems(t, "in two lists", Join(cells(1, 4), cells(2, 4)), cells(1, 4)...)
	checkItems(t, "in two lists, the other way", Join(cells(2, 4), cells(1, 4)), cells(2, 4)...)
	checkItems(t, "in the first and the third", Join(cells(1, 4), nil, cells(2, 3, 4)), api.Item{Cell: 3, Value: 2}, api.Item{Cell: 4, Value: 1})
	checkItems(t, "in all of them", Join(cells(1, 4, 7), cells(11, 7, 4), cells(21, 4, 7, 4)), cells(1, 4, 7)...)
	checkItems(t, "in one and between two", Join(cells(1, 7), cells(11, 4, 4, 7), cells(21, 4)), api.Item{Cell: 4, Value: 11}, api.Item{Cell: 7, Value: 1})
	read, wrote := api.Item{Cell: 5, Version: 9, Value: 1}, api.Item{Cell: 5, Version: 3, Value: 2, Write: true, New: 8}
	checkItems(t, "one that read ahead of one that wrote", Join([]api.Item{read}, []api.Item{wrote}), read)
	checkItems(t, "one that wrote ahead of one that read", Join([]api.Item{wrote}, []api.Item{read}), wrote)
	checkItems(t, "the same in one list", Join([]api.Item{wrote, read}), wrote)
}

// joined is what Join should answer, made by other means: cell by cell, the first item that has it.
func joined(l [][]api.Item) []api.Item {
	first := map[int]api.Item{}
	var cells []int
	for _, items := range l {
		for _, x := range items {
			if _, ok := first[x.Cell]; !ok {
				first[x.Cell] = x
				cells = append(cells, x.Cell)
			}
		}
	}
	slices.Sort(cells)
	var all []api.Item
	for _, c := range cells {
		all = append(all, first[c])
	}
	return all
}

// P6.1: any lists, short ones and such as a sort takes in pieces.
func TestJoinOfAnyLists(t *testing.T) {
	r := chance()
	for range 3000 {
		var l [][]api.Item
		for range r.IntN(6) {
			l = append(l, anyItems(r, r.IntN(1<<r.IntN(9))))
		}
		got := Join(l...)
		checkItems(t, "any lists", got, joined(l)...)
		for i, x := range got {
			if Find(got, x.Cell) != i {
				t.Fatalf("cell %d is found at %d, not at %d", x.Cell, Find(got, x.Cell), i)
			}
		}
	}
}

// P6.1: what is written into an answer of Join, or put behind it, changes no list, nor what Join answers next, and the other way round.
func TestJoinSharesNoMemory(t *testing.T) {
	lists := func() [][]api.Item {
		return [][]api.Item{cells(1, 9, 5, 2), nil, cells(11, 3, 5), append(cells(21, 4), api.Item{Cell: 7, Write: true, New: 1})}
	}
	for n := range 5 {
		l, elder := lists()[:n], lists()[:n]
		want := joined(elder)
		got, next := Join(l...), Join(l...)
		for i := range l {
			checkItems(t, "a list that was joined", l[i], elder[i]...)
		}
		_ = append(got, api.Item{Cell: 98})
		for i := range got {
			got[i] = api.Item{Cell: 99}
		}
		for i := range l {
			checkItems(t, "a list, when the answer was written into", l[i], elder[i]...)
		}
		checkItems(t, "another answer", next, want...)
		for i := range l {
			for k := range l[i] {
				l[i][k] = api.Item{Cell: 97}
			}
		}
		checkItems(t, "an answer, when the lists were written into", next, want...)
	}
	for _, l := range [][]api.Item{cells(1, 2, 5, 9), cells(1, 2), make([]api.Item, 1, 8)} { // one list, already as the answer is
		got := Join(l)
		elder := slices.Clone(l)
		got[0].Value = 77
		_ = append(got, api.Item{Cell: 96})
		checkItems(t, "the only list", l, elder...)
		checkItems(t, "what stands behind the only list", l[:cap(l)][len(l):], make([]api.Item, cap(l)-len(l))...)
	}
}

// P6.1: what asks of lists changes none of them.
func TestAskingChangesNothing(t *testing.T) {
	items, nodes := cells(1, 9, 5, 5), []int{3, 2, 2}
	RightItems(items...)
	RightNodes(nodes...)
	Find(items, 5)
	var w Writer
	w.Items(items...)
	w.Nodes(nodes...)
	checkItems(t, "items that were asked of", items, cells(1, 9, 5, 5)...)
	if !slices.Equal(nodes, []int{3, 2, 2}) {
		t.Errorf("nodes that were asked of: %v", nodes)
	}
}
