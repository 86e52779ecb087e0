package span

import (
	"slices"
	"testing"
)

// model is a tree as the chapter's words have it: who stands next to whom, and all ways from node to node, found by trying every one.
type model struct {
	nodes int
	near  [most + 1][most + 1]bool
}

func newModel(nodes int) *model {
	m := &model{nodes: nodes}
	for n := 2; n <= nodes; n++ {
		half := (n - n%2) / 2
		m.near[n][half], m.near[half][n] = true, true
	}
	return m
}

// ways is all lists of nodes, each next to the one ahead of it, that begin with these and end at to, no one twice in one.
func (m *model) ways(to int, gone ...int) [][]int {
	last := gone[len(gone)-1]
	if last == to {
		return [][]int{gone}
	}
	var all [][]int
	for n := 1; n <= m.nodes; n++ {
		if m.near[last][n] && !slices.Contains(gone, n) {
			all = append(all, m.ways(to, append(slices.Clone(gone), n)...)...)
		}
	}
	return all
}

// path is the one way there is.
func (m *model) path(t *testing.T, from, to int) []int {
	t.Helper()
	all := m.ways(to, from)
	if len(all) != 1 {
		t.Fatalf("of %d nodes, from %d to %d: the ways %v", m.nodes, from, to, all)
	}
	return all[0]
}

// P15.1: every tree, every node, every two nodes.
func TestAllTrees(t *testing.T) {
	for nodes := 1; nodes <= most; nodes++ {
		m := newModel(nodes)
		far := 0
		for from := 1; from <= nodes; from++ {
			var near, children []int
			for n := 1; n <= nodes; n++ {
				if m.near[from][n] {
					near = append(near, n)
				}
				if m.near[from][n] && n > from {
					children = append(children, n)
				}
			}
			checkNeighbours(t, from, nodes, near...)
			checkChildren(t, from, nodes, children...)
			checkDepth(t, from, len(m.path(t, from, 1))-1)
			for to := 1; to <= nodes; to++ {
				p := m.path(t, from, to)
				far = max(far, len(p)-1)
				checkPath(t, from, to, nodes, p...)
				checkToward(t, from, to, nodes, slices.Concat(p, p)[1])
			}
		}
		checkFar(t, nodes, far)
	}
}

// P15.1: a node is its children's parent, and a child of its parent; neighbours are so of each other.
func TestBothWays(t *testing.T) {
	for nodes := 1; nodes <= most; nodes++ {
		for n := 1; n <= nodes; n++ {
			for _, c := range Children(n, nodes) {
				checkParent(t, c, n)
				checkDepth(t, c, Depth(n)+1)
			}
			if n > 1 && !slices.Contains(Children(Parent(n), nodes), n) {
				t.Errorf("of %d nodes: %d is no child of its parent", nodes, n)
			}
			for _, o := range Neighbours(n, nodes) {
				if !slices.Contains(Neighbours(o, nodes), n) {
					t.Errorf("of %d nodes: %d is a neighbour of %d, but not the other way", nodes, o, n)
				}
			}
		}
	}
}

// P15.2: step by step, from each node to each one, over neighbours alone, in at most Far steps, no node twice; the longest takes just Far. There it stays.
func TestTowardLeads(t *testing.T) {
	for nodes := 1; nodes <= most; nodes++ {
		longest := 0
		for from := 1; from <= nodes; from++ {
			for to := 1; to <= nodes; to++ {
				gone := []int{from}
				for at := from; at != to; {
					next := Toward(at, to, nodes)
					if !slices.Contains(Neighbours(at, nodes), next) || slices.Contains(gone, next) || len(gone) > Far(nodes) {
						t.Fatalf("of %d nodes, from %d to %d: behind %v to %d; Far is %d", nodes, from, to, gone, next, Far(nodes))
					}
					gone = append(gone, next)
					at = next
				}
				checkToward(t, to, to, nodes, to)
				checkPath(t, from, to, nodes, gone...)
				longest = max(longest, len(gone)-1)
			}
		}
		if longest != Far(nodes) {
			t.Errorf("of %d nodes: no way has more than %d steps; Far is %d", nodes, longest, Far(nodes))
		}
	}
}
