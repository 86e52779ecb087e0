package span

import (
	"math"
	"slices"
	"testing"

	"remuda/api"
)

const most = 16 // how many nodes there may be

// wrong is numbers that are no node's and no count's, whatever the tree.
func wrong() []int {
	return []int{0, -1, -2, -3, -16, -17, -1 << 32, math.MinInt, math.MinInt + 1, 17, 18, 32, 33, 1 << 32, 1<<32 + 1, 1 << 62, math.MaxInt - 1, math.MaxInt}
}

// numbers is all that are right in some tree, and wrong ones.
func numbers() []int {
	l := wrong()
	for n := 1; n <= most; n++ {
		l = append(l, n)
	}
	return l
}

func checkParent(t *testing.T, n, want int) {
	t.Helper()
	if got := Parent(n); got != want {
		t.Errorf("Parent(%d) = %d, want %d", n, got, want)
	}
}

func checkChildren(t *testing.T, n, nodes int, want ...int) {
	t.Helper()
	if got := Children(n, nodes); !slices.Equal(got, want) {
		t.Errorf("Children(%d, %d) = %v, want %v", n, nodes, got, want)
	}
}

func checkNeighbours(t *testing.T, n, nodes int, want ...int) {
	t.Helper()
	if got := Neighbours(n, nodes); !slices.Equal(got, want) {
		t.Errorf("Neighbours(%d, %d) = %v, want %v", n, nodes, got, want)
	}
}

func checkPath(t *testing.T, from, to, nodes int, want ...int) {
	t.Helper()
	if got := Path(from, to, nodes); !slices.Equal(got, want) {
		t.Errorf("Path(%d, %d, %d) = %v, want %v", from, to, nodes, got, want)
	}
}

func checkToward(t *testing.T, from, to, nodes, want int) {
	t.Helper()
	if got := Toward(from, to, nodes); got != want {
		t.Errorf("Toward(%d, %d, %d) = %d, want %d", from, to, nodes, got, want)
	}
}

func checkDepth(t *testing.T, n, want int) {
	t.Helper()
	if got := Depth(n); got != want {
		t.Errorf("Depth(%d) = %d, want %d", n, got, want)
	}
}

func checkFar(t *testing.T, nodes, want int) {
	t.Helper()
	if got := Far(nodes); got != want {
		t.Errorf("Far(%d) = %d, want %d", nodes, got, want)
	}
}

// P15.1: the chapter's examples.
func TestExamples(t *testing.T) {
	checkPath(t, 4, 3, 7, 4, 2, 1, 3)
	checkFar(t, 7, 4)
}

// P15.1: the parents of the greatest tree's nodes, and how deep they are, written out; beyond it halves go on.
func TestParentAndDepth(t *testing.T) {
	parents := []int{0, 1, 1, 2, 2, 3, 3, 4, 4, 5, 5, 6, 6, 7, 7, 8}
	depths := []int{0, 1, 1, 2, 2, 2, 2, 3, 3, 3, 3, 3, 3, 3, 3, 4}
	for i := range most {
		checkParent(t, i+1, parents[i])
		checkDepth(t, i+1, depths[i])
	}
	for level := range 63 {
		first := 1 << level
		checkParent(t, first, first/2)
		checkDepth(t, first, level)
		checkDepth(t, first+first-1, level)
		if level > 0 {
			checkParent(t, first+1, first/2)
			checkParent(t, first+first-1, first-1)
		}
	}
	checkParent(t, 17, 8)
	checkParent(t, math.MaxInt, math.MaxInt/2)
	checkDepth(t, math.MaxInt, 62)
}

// P15.1: there is nothing above what is below 1.
func TestBelowOne(t *testing.T) {
	for _, n := range wrong() {
		if n < 1 {
			checkParent(t, n, 0)
			checkDepth(t, n, 0)
			checkFar(t, n, 0)
		}
	}
}

// P15.1: children and neighbours of nodes that have none, one and two children, at the tree's end and away from it.
func TestNear(t *testing.T) {
	for _, x := range []struct{ n, nodes, parent, first, last int }{
		{1, 1, 0, 0, 0}, {1, 2, 0, 2, 2}, {1, 3, 0, 2, 3}, {1, 16, 0, 2, 3},
		{2, 2, 1, 0, 0}, {2, 3, 1, 0, 0}, {2, 4, 1, 4, 4}, {2, 5, 1, 4, 5}, {2, 16, 1, 4, 5},
		{3, 5, 1, 0, 0}, {3, 6, 1, 6, 6}, {3, 7, 1, 6, 7},
		{7, 13, 3, 0, 0}, {7, 14, 3, 14, 14}, {7, 15, 3, 14, 15},
		{8, 15, 4, 0, 0}, {8, 16, 4, 16, 16}, {9, 16, 4, 0, 0}, {15, 16, 7, 0, 0}, {16, 16, 8, 0, 0},
	} {
		var children, near []int
		if x.parent > 0 {
			near = append(near, x.parent)
		}
		for c := x.first; c > 0 && c <= x.last; c++ {
			children = append(children, c)
			near = append(near, c)
		}
		checkChildren(t, x.n, x.nodes, children...)
		checkNeighbours(t, x.n, x.nodes, near...)
	}
}

// P15.1: paths down, up, by the root and past it, and of a node to itself.
func TestPaths(t *testing.T) {
	for _, l := range [][]int{
		{1}, {2}, {16},
		{1, 2}, {1, 3}, {2, 1, 3}, {4, 2, 5}, {1, 2, 5, 11}, {12, 6, 13}, {12, 6, 3, 7, 15}, {3, 7, 14},
		{8, 4, 2, 1, 3}, {16, 8, 4, 2, 1, 3, 6, 12}, {16, 8, 4, 9}, {15, 7, 3, 1, 2, 5, 10}, {1, 2, 4, 8, 16},
	} {
		back := slices.Clone(l)
		slices.Reverse(back)
		for nodes := slices.Max(l); nodes <= most; nodes++ {
			for _, p := range [][]int{l, back} {
				from, to := p[0], p[len(p)-1]
				checkPath(t, from, to, nodes, p...)
				checkToward(t, from, to, nodes, p[min(1, len(p)-1)])
			}
		}
		for nodes := range slices.Max([]int{l[0], back[0]}) {
			checkPath(t, l[0], back[0], nodes)
			checkToward(t, l[0], back[0], nodes, 0)
		}
	}
}

// P15.1: the longest path of each count of nodes, written out.
func TestFar(t *testing.T) {
	for i, want := range []int{0, 0, 1, 2, 3, 3, 4, 4, 5, 5, 5, 5, 6, 6, 6, 6, 7} {
		checkFar(t, i, want)
	}
}

// P15.1: where a node or the count isn't right there is nothing, be the two ends the same or not.
func TestWrong(t *testing.T) {
	for _, nodes := range numbers() {
		for _, n := range numbers() {
			if nodes <= most && 1 <= n && n <= nodes {
				continue
			}
			checkChildren(t, n, nodes)
			checkNeighbours(t, n, nodes)
			for _, other := range numbers() {
				checkPath(t, n, other, nodes)
				checkPath(t, other, n, nodes)
				checkToward(t, n, other, nodes, 0)
				checkToward(t, other, n, nodes, 0)
			}
		}
		if nodes > most {
			checkFar(t, nodes, 0)
		}
	}
}

// Rule 2: what was told is the caller's: written into, and grown, it changes nothing that is told later or was told ahead.
func TestNothingIsShared(t *testing.T) {
	for _, ask := range []func() []int{
		func() []int { return Children(2, 7) },
		func() []int { return Neighbours(2, 7) },
		func() []int { return Neighbours(16, 16) },
		func() []int { return Path(8, 3, 8) },
		func() []int { return Path(1, 12, 16) },
		func() []int { return Path(5, 5, 7) },
	} {
		want := slices.Clone(ask())
		told, other := ask(), ask()
		for i := range told {
			told[i] = -1
		}
		_ = append(told[:0], 90, 91)
		if now := ask(); !slices.Equal(other, want) || !slices.Equal(now, want) {
			t.Errorf("%v was told; behind writing into that %v and %v", want, other, now)
		}
	}
}

// The tests write the limit as a number: it is api's.
func TestLimit(t *testing.T) {
	if api.MaxNodes != most {
		t.Error(api.MaxNodes)
	}
}
