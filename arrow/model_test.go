package arrow

import (
	"math/rand/v2"
	"slices"
	"testing"

	"remuda/api"
)

func chance() *rand.Rand { return rand.New(rand.NewPCG(1, 2)) }

func among(n, nodes int) bool { return 1 <= n && n <= nodes }

// neighbours tells whether two nodes stand next to each other.
func neighbours(a, b, nodes int) bool {
	return among(a, nodes) && among(b, nodes) && (a/2 == b || b/2 == a)
}

// toward is the next node on the way to the owner, or the owner: below the node, if it is gone through on the owner's way to the root.
func toward(node, owner int) int {
	if node == owner {
		return node
	}
	for n := owner; n > 1; n /= 2 {
		if n/2 == node {
			return n
		}
	}
	return node / 2
}

// way is the nodes that are gone through from one to another one.
func way(from, to int) []int {
	l := []int{from}
	for from != to {
		from = toward(from, to)
		l = append(l, from)
	}
	return l
}

// model is a book as the chapter's words have it.
type model struct {
	node, nodes int
	to          []int
}

// call is a call at a book; n is the node that is handed in.
type call struct {
	name    string
	cell, n int
}

type answer struct {
	n   int
	yes bool
	e   api.Errno
}

func (m *model) do(c call) answer {
	refused := answer{0, false, api.ErrArg}
	if c.cell < 0 || c.cell >= len(m.to) {
		return refused
	}
	was := m.to[c.cell]
	home := was == m.node
	switch c.name {
	case "Want":
		m.to[c.cell] = m.node
		if home {
			return answer{0, false, api.OK}
		}
		return answer{was, true, api.OK}
	case "Find":
		if !neighbours(m.node, c.n, m.nodes) {
			return refused
		}
		m.to[c.cell] = c.n
		if home {
			return answer{0, true, api.OK}
		}
		return answer{was, false, api.OK}
	}
	if !among(c.n, m.nodes) {
		return refused
	}
	m.to[c.cell] = toward(m.node, c.n)
	return answer{}
}

// do lets a book take a call.
func do(b *Book, c call) answer {
	var a answer
	switch c.name {
	case "Want":
		a.n, a.yes, a.e = b.Want(c.cell)
	case "Find":
		a.n, a.yes, a.e = b.Find(c.cell, c.n)
	case "Point":
		a.e = b.Point(c.cell, c.n)
		if a.e != api.OK {
			a = answer{0, false, a.e}
		}
	}
	return a
}

// differ lets a book and a model take a call, and tells whether they answer otherwise or stand otherwise then.
func differ(b *Book, m *model, c call) bool {
	if do(b, c) != m.do(c) {
		return true
	}
	for cell := -1; cell <= cells; cell++ {
		want := 0
		if cell >= 0 && cell < len(m.to) {
			want = m.to[cell]
		}
		if b.To(cell) != want {
			return true
		}
	}
	return false
}

// P16.1: in all orders of up to four calls.
func TestAllOrders(t *testing.T) {
	all := []call{
		{"Want", 0, 0}, {"Want", 1, 0}, {"Want", 2, 0}, {"Want", -1, 0},
		{"Find", 0, 1}, {"Find", 0, 4}, {"Find", 0, 5}, {"Find", 0, 2}, {"Find", 0, 3}, {"Find", 1, 1}, {"Find", 1, 4}, {"Find", 1, 0}, {"Find", 2, 1}, {"Find", -1, 4},
		{"Point", 0, 2}, {"Point", 0, 6}, {"Point", 1, 5}, {"Point", 1, 2}, {"Point", 1, 8}, {"Point", 0, 0}, {"Point", 2, 1},
	}
	var path []call
	var try func(b *Book, m *model)
	try = func(b *Book, m *model) {
		if len(path) == 4 {
			return
		}
		for _, c := range all {
			path = append(path, c)
			x, y := &Book{slices.Clone(b.arrows)}, &model{m.node, m.nodes, slices.Clone(m.to)}
			if differ(x, y, c) {
				t.Fatalf("behind the calls %v: %v, want %v", path, x.arrows, y.to)
			}
			try(x, y)
			path = path[:len(path)-1]
		}
	}
	try(newBook(t, 2, 7, 2, 1), &model{2, 7, []int{2, 1}})
}

// P16.1: in long orders, over any trees, nodes and cells.
func TestLongOrders(t *testing.T) {
	r := chance()
	for run := range 400 {
		m := &model{nodes: 1 + run%most}
		m.node = 1 + r.IntN(m.nodes)
		var owners []int
		for range 1 + r.IntN(cells) {
			owner := 1 + r.IntN(m.nodes)
			owners = append(owners, owner)
			m.to = append(m.to, toward(m.node, owner))
		}
		b := newBook(t, m.node, m.nodes, owners...)
		for i := range 500 {
			c := call{[]string{"Want", "Find", "Find", "Point"}[r.IntN(4)], r.IntN(len(owners)+2) - 1, 0}
			if c.name != "Want" {
				c.n = r.IntN(m.nodes+3) - 1
			}
			if c.name == "Find" && r.IntN(2) == 0 {
				c.n = []int{m.node / 2, 2 * m.node, 2*m.node + 1}[r.IntN(3)]
			}
			if differ(b, m, c) {
				t.Fatalf("the run %d, the call %d, %v at node %d of %d: %v, want %v", run, i, c, m.node, m.nodes, b.arrows, m.to)
			}
		}
	}
}
