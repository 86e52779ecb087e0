package vote

import (
	"cmp"
	"math/rand/v2"
	"slices"
	"testing"

	"remuda/api"
)

func chance() *rand.Rand { return rand.New(rand.NewPCG(1, 2)) }

// votes is what a ballot can do; the model below does the same by other means.
type votes interface {
	Tid() api.Tid
	Vote(node int, yes bool) int
	GiveUp() int
	State() int
	Ack(l ...int) bool
	Over() bool
	Waits() []int
	Nodes() []int
	Items(l ...int) []api.Item
}

// What may happen to a ballot.
const (
	yes = iota
	no
	end
	ack
)

type event struct{ kind, node int }

// model is a ballot as the chapter's words have it: all that ever happened to it, gone through anew at each question.
type model struct {
	parts []Part
	log   []event
}

func (m *model) has(node int) bool {
	return slices.ContainsFunc(m.parts, func(p Part) bool { return p.Node == node })
}

// decided is the state, and how many events there were when it became so.
func (m *model) decided() (state, at int) {
	for at := range len(m.log) + 1 {
		ahead := m.log[:at]
		if at > 0 && (ahead[at-1].kind == end || ahead[at-1].kind == no && m.has(ahead[at-1].node)) {
			return Aborted, at
		}
		if (at == 0 || ahead[at-1].kind == yes) && len(m.without(yes, ahead)) == 0 {
			return Committed, at
		}
	}
	return Open, len(m.log)
}

// without is the parts' nodes of which there is no event of a kind.
func (m *model) without(kind int, log []event) []int {
	return slices.DeleteFunc(m.Nodes(), func(node int) bool { return slices.Contains(log, event{kind, node}) })
}

func (m *model) Tid() api.Tid { return name() }

func (m *model) State() int {
	state, _ := m.decided()
	return state
}

func (m *model) Vote(node int, aye bool) int {
	if aye {
		m.log = append(m.log, event{yes, node})
	} else {
		m.log = append(m.log, event{no, node})
	}
	return m.State()
}

func (m *model) GiveUp() int {
	m.log = append(m.log, event{end, 0})
	return m.State()
}

func (m *model) Ack(l ...int) bool {
	for _, node := range l {
		m.log = append(m.log, event{ack, node})
	}
	return m.Over()
}

func (m *model) Over() bool { return m.State() != Open && m.Waits() == nil }

func (m *model) Waits() []int {
	var l []int
	switch state, at := m.decided(); state {
	case Open:
		l = m.without(yes, m.log)
	case Committed:
		l = m.without(ack, m.log[at:])
	}
	if len(l) == 0 {
		return nil
	}
	return l
}

func (m *model) Nodes() []int {
	l := make([]int, 0, len(m.parts))
	for _, p := range m.parts {
		l = append(l, p.Node)
	}
	return l
}

func (m *model) Items(l ...int) []api.Item {
	var items []api.Item
	for _, p := range m.parts {
		if l == nil || slices.Contains(l, p.Node) {
			items = append(items, p.Items...)
		}
	}
	slices.SortFunc(items, func(a, b api.Item) int { return cmp.Compare(a.Cell, b.Cell) })
	return items
}

// told is what a call answered.
type told struct {
	state int
	over  bool
	items []api.Item
}

func (a told) same(b told) bool {
	return a.state == b.state && a.over == b.over && slices.Equal(a.items, b.items)
}

type call func(x votes) told

func voting(node int, aye bool) call {
	return func(x votes) told { return told{state: x.Vote(node, aye)} }
}
func givingUp() call        { return func(x votes) told { return told{state: x.GiveUp()} } }
func acking(l ...int) call  { return func(x votes) told { return told{over: x.Ack(l...)} } }
func itemsOf(l ...int) call { return func(x votes) told { return told{items: x.Items(l...)} } }

// calls is calls of every kind, of the nodes 1 and 3, and of node 2, that has no part.
func calls() []call {
	return []call{
		voting(1, true), voting(3, true), voting(2, true),
		voting(1, false), voting(3, false), voting(2, false),
		givingUp(),
		acking(), acking(1), acking(3), acking(2), acking(3, 1), acking(2, 1, 3, 1),
	}
}

// differs tells whether a ballot stands otherwise than a model.
func differs(b *Ballot, m *model) bool {
	return b.Tid() != m.Tid() || b.State() != m.State() || b.Over() != m.Over() ||
		!slices.Equal(b.Waits(), m.Waits()) || !slices.Equal(b.Nodes(), m.Nodes()) || !slices.Equal(b.Items(), m.Items())
}

// copied is a ballot and a model that stand as others do, and have nothing to do with them.
func copied(b *Ballot, m *model) (*Ballot, *model) {
	return &Ballot{b.tid, slices.Clone(b.parts), b.aborted}, &model{m.parts, slices.Clone(m.log)}
}

// P19.1: in all orders of up to five calls.
func TestAllOrders(t *testing.T) {
	all := calls()
	var path []int
	var try func(b *Ballot, m *model)
	try = func(b *Ballot, m *model) {
		if len(path) == 5 {
			return
		}
		for i, do := range all {
			path = append(path, i)
			c, n := copied(b, m)
			if got, want := do(c), do(n); !got.same(want) || differs(c, n) {
				t.Fatalf("the calls %v: %v, want %v; %v, want %v", path, got, want, *c, n.log)
			}
			try(c, n)
			path = path[:len(path)-1]
		}
	}
	l := []Part{part(1, 2, 5), part(3, 3)}
	try(newBallot(t, l...), &model{parts: l})
}

// anyParts is parts of some nodes, among which all cells are dealt out, or some of them.
func anyParts(r *rand.Rand, many int) []Part {
	nodes := r.Perm(mostNodes)[:many]
	slices.Sort(nodes)
	cells := r.Perm(mostCells)
	var l []Part
	for i, node := range nodes {
		mine := []int{cells[i]}
		for j := many + i; j < mostCells; j += many {
			if r.IntN(3) > 0 {
				mine = append(mine, cells[j])
			}
		}
		slices.Sort(mine)
		l = append(l, part(node+1, mine...))
	}
	return l
}

// anyNodes is up to four nodes, of which any may have no part.
func anyNodes(r *rand.Rand) []int {
	var l []int
	for range r.IntN(5) {
		l = append(l, r.IntN(mostNodes+2))
	}
	return l
}

// anyCall is some call, mostly of nodes that have a part; the more of these there are, the fewer calls abort.
func anyCall(r *rand.Rand, nodes []int) call {
	nodes = append(slices.Clone(nodes), r.IntN(mostNodes+2))
	node := nodes[r.IntN(len(nodes))]
	switch r.IntN(12 * len(nodes)) {
	case 0:
		return voting(node, false)
	case 1:
		return givingUp()
	}
	switch x := r.IntN(10); {
	case x < 6:
		return voting(node, true)
	case x < 7:
		return itemsOf(anyNodes(r)...)
	}
	return acking(append(anyNodes(r), node)...)
}

// P19.1: in long orders, with every count of parts.
func TestLongOrders(t *testing.T) {
	r := chance()
	for many := range mostNodes + 1 {
		var ends [3]int
		for range 20 {
			l := anyParts(r, many)
			b, m := newBallot(t, l...), &model{parts: l}
			for i := range 180 {
				do := anyCall(r, b.Nodes())
				if got, want := do(b), do(m); !got.same(want) || differs(b, m) {
					t.Fatalf("%d parts, the call %d: %v, want %v; %v, want %v", many, i, got, want, *b, m.log)
				}
			}
			if b.Over() {
				ends[b.State()]++
			}
		}
		if many > 0 && min(ends[Committed], ends[Aborted]) < 1 {
			t.Errorf("%d parts: of the ends there are by states %v", many, ends)
		}
	}
}

// heard is who voted yes and no of those who have a part, and whether it was given up, while a ballot was open.
type heard struct {
	yes, no map[int]int
	givenUp bool
}

// step does some call, and notes what was heard by it.
func (h *heard) step(r *rand.Rand, b *Ballot) {
	nodes := b.Nodes()
	switch x, node := r.IntN(100), nodes[r.IntN(len(nodes))]; {
	case x < 60:
		b.Vote(node, true)
		h.yes[node]++
	case x < 62:
		b.Vote(node, false)
		h.no[node]++
	case x < 64:
		b.GiveUp()
		h.givenUp = true
	case x < 80:
		b.Vote(0, x%2 == 0)
	default:
		b.Ack(node)
	}
}

// P19.2: over long runs, what is decided stays so; it is committed at the call by which each part has voted yes, when none has voted no, and aborted at a no, or when it is given up; once over it stays over, and of a committed one those that are waited for get fewer.
func TestDecidedStaysSo(t *testing.T) {
	r := chance()
	var ends [3]int
	for run := range 2000 {
		b := newBallot(t, anyParts(r, 1+run%mostNodes)...)
		h := heard{yes: map[int]int{}, no: map[int]int{}}
		for i := range 300 {
			was, over, waits := b.State(), b.Over(), b.Waits()
			h.step(r, b)
			is, all := b.State(), len(h.yes) == len(b.Nodes())
			right := is == was
			if was == Open {
				right = (is == Committed) == (all && len(h.no) == 0 && !h.givenUp) && (is == Aborted) == (len(h.no) > 0 || h.givenUp)
			} else if over && !b.Over() || len(b.Waits()) > len(waits) {
				right = false
			}
			if !right {
				t.Fatalf("run %d, step %d: was %d, is %d, heard were %v", run, i, was, is, h)
			}
		}
		ends[b.State()]++
	}
	if min(ends[Committed], ends[Aborted]) < 300 {
		t.Errorf("of the ends there are by states %v", ends)
	}
}

// Rule 5: the same calls lead to the same ballot.
func TestSameCallsSameBallot(t *testing.T) {
	for seed := range uint64(50) {
		r, s := rand.New(rand.NewPCG(seed, 0)), rand.New(rand.NewPCG(seed, 0))
		many := int(seed) % (mostNodes + 1)
		a, b := newBallot(t, anyParts(r, many)...), newBallot(t, anyParts(s, many)...)
		for i := range 200 {
			if x, y := anyCall(r, a.Nodes())(a), anyCall(s, b.Nodes())(b); !x.same(y) || a.State() != b.State() || !slices.Equal(a.Waits(), b.Waits()) {
				t.Fatalf("the seed %d, the call %d: %v and %v", seed, i, x, y)
			}
		}
	}
}
