package vote

import (
	"math"
	"slices"
	"testing"

	"remuda/api"
	"remuda/item"
)

const mostNodes, mostCells = 16, 16

func name() api.Tid { return api.Tid{Node: 2, Epoch: 3, Seq: 4} }

// things is right items of these cells, each of which is to be told from any other.
func things(cells ...int) []api.Item {
	var l []api.Item
	for i, cell := range cells {
		l = append(l, api.Item{Cell: cell, Version: 100 + cell, Value: -cell, Write: i%2 == 0, New: (i + 1) % 2 * (cell + 7)})
	}
	return l
}

func part(node int, cells ...int) Part { return Part{node, things(cells...)} }

// parts is parts of the nodes 1, 3 and 16, with cells that lie between one another.
func parts() []Part { return []Part{part(1, 4, 9), part(3, 0, 7, 15), part(16, 5)} }

// extremes is numbers at the edges of what an int can be, of 32 bits, and of what may be.
func extremes() []int {
	return []int{math.MinInt, math.MinInt + 1, -api.MaxNum, -1 << 32, -1<<31 - 1, -2, -1, 0, 1, 15, 16, 17, 1<<31 - 1, 1 << 31, 1<<32 - 1, 1 << 32, 1<<32 + 1, api.MaxNum - 1, api.MaxNum, api.MaxNum + 1, math.MaxInt - 1, math.MaxInt}
}

func newBallot(t *testing.T, l ...Part) *Ballot {
	t.Helper()
	b, e := New(name(), l...)
	if b == nil || e != api.OK {
		t.Fatalf("New(%v): %v, %d", l, b, e)
	}
	return b
}

func checkNew(t *testing.T, may bool, who api.Tid, l ...Part) {
	t.Helper()
	b, e := New(who, l...)
	if may && (b == nil || e != api.OK) || !may && (b != nil || e != api.ErrArg) {
		t.Errorf("New(%v, %v): %v, %d", who, l, b, e)
	}
}

func checkVote(t *testing.T, b *Ballot, want int, node int, yes bool) {
	t.Helper()
	if got := b.Vote(node, yes); got != want {
		t.Errorf("Vote(%d, %v): %d, want %d", node, yes, got, want)
	}
}

func checkAck(t *testing.T, b *Ballot, want bool, l ...int) {
	t.Helper()
	if got := b.Ack(l...); got != want {
		t.Errorf("Ack(%v): %v", l, got)
	}
}

// checkIs tells whether a ballot stands so; asked twice, as asking changes nothing.
func checkIs(t *testing.T, b *Ballot, state int, over bool, waits ...int) {
	t.Helper()
	for range 2 {
		if got := b.State(); got != state {
			t.Errorf("State: %d, want %d", got, state)
		}
		if got := b.Over(); got != over {
			t.Errorf("Over: %v", got)
		}
		if got := b.Waits(); !slices.Equal(got, waits) {
			t.Errorf("Waits: %v, want %v", got, waits)
		}
	}
}

func checkItems(t *testing.T, b *Ballot, want []api.Item, l ...int) {
	t.Helper()
	if got := b.Items(l...); !slices.Equal(got, want) {
		t.Errorf("Items(%v): %v, want %v", l, got, want)
	}
}

// checkHas tells whether a ballot has a name and parts, whatever was voted.
func checkHas(t *testing.T, b *Ballot, who api.Tid, l ...Part) {
	t.Helper()
	var nodes []int
	var all [][]api.Item
	for _, p := range l {
		nodes, all = append(nodes, p.Node), append(all, p.Items)
		checkItems(t, b, p.Items, p.Node)
	}
	if got := b.Tid(); got != who {
		t.Errorf("Tid: %v, want %v", got, who)
	}
	if got := b.Nodes(); !slices.Equal(got, nodes) {
		t.Errorf("Nodes: %v, want %v", got, nodes)
	}
	checkItems(t, b, item.Join(all...))
}

// P19.1: the states are told by these numbers.
func TestStates(t *testing.T) {
	if Open != 0 || Committed != 1 || Aborted != 2 {
		t.Error(Open, Committed, Aborted)
	}
}

// P19.1: the chapter's example.
func TestExample(t *testing.T) {
	b := newBallot(t, part(1, 2), part(3, 1))
	checkVote(t, b, 0, 1, true)
	checkVote(t, b, 1, 3, true)
	checkIs(t, b, Committed, false, 1, 3)
}

// P19.1: a new ballot has its name and its parts, of which each is waited for.
func TestNew(t *testing.T) {
	var l []Part
	var nodes []int
	for node := 1; node <= mostNodes; node++ {
		l, nodes = append(l, part(node, mostCells-node)), append(nodes, node)
		b := newBallot(t, l...)
		checkIs(t, b, Open, false, nodes...)
		checkHas(t, b, name(), l...)
		alone := newBallot(t, part(node, upTo(mostCells)...))
		checkIs(t, alone, Open, false, node)
		checkHas(t, alone, name(), part(node, upTo(mostCells)...))
	}
	checkHas(t, newBallot(t, parts()...), name(), parts()...)
}

// upTo is the numbers from 0 on.
func upTo(many int) []int {
	var l []int
	for i := range many {
		l = append(l, i)
	}
	return l
}

// P19.1: without parts a ballot is committed, and over, at once; nothing changes that.
func TestNoParts(t *testing.T) {
	b := newBallot(t)
	checkVote(t, b, Committed, 1, false)
	checkAck(t, b, true)
	checkAck(t, b, true, 1, 0)
	if b.GiveUp() != Committed {
		t.Error("GiveUp")
	}
	checkIs(t, b, Committed, true)
	checkHas(t, b, name())
	checkItems(t, b, nil, 1)
}

// P19.1: a name that isn't right is refused, with parts and without.
func TestNewWrongName(t *testing.T) {
	for _, n := range extremes() {
		number := n >= 1 && n <= api.MaxNum
		for _, l := range [][]Part{nil, parts()} {
			checkNew(t, n >= 1 && n <= mostNodes, api.Tid{Node: n, Epoch: 1, Seq: 1}, l...)
			checkNew(t, number, api.Tid{Node: 1, Epoch: n, Seq: 1}, l...)
			checkNew(t, number, api.Tid{Node: 1, Epoch: 1, Seq: n}, l...)
		}
	}
	checkNew(t, false, api.Tid{})
	checkNew(t, false, api.Tid{}, parts()...)
}

// P19.1: nodes that aren't right are refused: each, and their order.
func TestNewWrongNodes(t *testing.T) {
	for _, n := range extremes() {
		checkNew(t, n >= 1 && n <= mostNodes, name(), part(n, 3))
		checkNew(t, n >= 4 && n <= mostNodes, name(), part(3, 3), part(n, 4))
		checkNew(t, n >= 1 && n <= 2, name(), part(n, 4), part(3, 3))
	}
	for a := 1; a <= mostNodes; a++ {
		for b := 1; b <= mostNodes; b++ {
			checkNew(t, a < b, name(), part(a, 1), part(b, 2))
			checkNew(t, 1 < a && a < b, name(), part(1, 0), part(a, 1), part(b, 2))
		}
	}
	l := parts()
	checkNew(t, false, name(), l[0], l[2], l[1])
	checkNew(t, false, name(), l[1], l[0], l[2])
	checkNew(t, true, name(), l[1], l[2])
}

// wrongItems is lists of items that aren't right.
func wrongItems() [][]api.Item {
	l := [][]api.Item{nil, {}, things(3, 3), things(4, 3), things(0, 2, 1), {{Cell: 1, New: 1}}, {{Cell: 1, New: -1}}, append(things(upTo(mostCells)...), things(3)...)}
	for _, n := range extremes() {
		if n < 0 || n >= mostCells {
			l = append(l, []api.Item{{Cell: n}})
		}
		if n < 0 || n >= api.MaxNum {
			l = append(l, []api.Item{{Cell: 1, Version: n}})
		}
	}
	return l
}

// P19.1: items that aren't right are refused, whichever part has them; a value may be any number.
func TestNewWrongItems(t *testing.T) {
	for _, items := range wrongItems() {
		for i := range 3 {
			l := []Part{part(1, 2), part(5, 14), part(6, 8)}
			checkNew(t, true, name(), l...)
			l[i].Items = items
			checkNew(t, false, name(), l...)
		}
		checkNew(t, false, name(), Part{1, items})
	}
	for _, n := range extremes() {
		p := Part{1, []api.Item{{Cell: 2, Value: n}, {Cell: 3, Write: true, New: n}}}
		checkNew(t, true, name(), p)
		checkHas(t, newBallot(t, p), name(), p)
	}
}

// P19.1: two parts that have one cell are refused, wherever it stands in them.
func TestNewSameCell(t *testing.T) {
	for cell := range mostCells {
		for other := range mostCells {
			checkNew(t, cell != other, name(), part(1, cell), part(2, other))
			if other < 14 {
				checkNew(t, cell != other && cell != other+1 && cell != other+2, name(), part(1, cell), part(7, other, other+1, other+2))
				checkNew(t, cell != other && cell != other+1 && cell != other+2, name(), part(1, other, other+1, other+2), part(7, cell))
			}
		}
	}
	checkNew(t, true, name(), part(1, 0), part(2, 1), part(3, 2))
	checkNew(t, false, name(), part(1, 0), part(2, 1), part(3, 0))
	checkNew(t, false, name(), part(1, 0), part(2, 1), part(3, 1))
	checkNew(t, false, name(), Part{1, []api.Item{{Cell: 0, Version: 1}}}, Part{2, []api.Item{{Cell: 0, Version: 2}}})
}

// P19.1: by the yes of all it is committed, in each order; a yes that comes again is no other one's.
func TestAllYes(t *testing.T) {
	for _, order := range [][]int{{1, 3, 16}, {1, 16, 3}, {3, 1, 16}, {3, 16, 1}, {16, 1, 3}, {16, 3, 1}} {
		b := newBallot(t, parts()...)
		waits := []int{1, 3, 16}
		for i, node := range order {
			checkVote(t, b, [3]int{Open, Open, Committed}[i], node, true)
			checkVote(t, b, [3]int{Open, Open, Committed}[i], node, true)
			waits = slices.DeleteFunc(waits, func(n int) bool { return n == node })
			if i < 2 {
				checkIs(t, b, Open, false, waits...)
			}
		}
		checkIs(t, b, Committed, false, 1, 3, 16)
		checkHas(t, b, name(), parts()...)
	}
}

// P19.1: a no aborts what is open, also of who voted yes, and then nothing is waited for.
func TestNo(t *testing.T) {
	for _, yes := range [][]int{nil, {1}, {3}, {16}, {1, 3}, {1, 16}, {3, 16}} {
		for _, no := range []int{1, 3, 16} {
			b := newBallot(t, parts()...)
			for _, node := range yes {
				checkVote(t, b, Open, node, true)
			}
			checkVote(t, b, Aborted, no, false)
			checkIs(t, b, Aborted, true)
			checkHas(t, b, name(), parts()...)
			for _, node := range []int{1, 3, 16} {
				checkVote(t, b, Aborted, node, true)
			}
			checkAck(t, b, true)
			checkAck(t, b, true, 1, 3, 16)
			checkIs(t, b, Aborted, true)
		}
	}
}

// P19.1: a node that has no part has no vote and no acknowledgement.
func TestNoPart(t *testing.T) {
	for _, n := range append(extremes(), 2, 4, 257, 1<<32+3) {
		if n == 1 || n == 3 || n == 16 {
			continue
		}
		b := newBallot(t, parts()...)
		checkVote(t, b, Open, n, false)
		checkVote(t, b, Open, n, true)
		checkIs(t, b, Open, false, 1, 3, 16)
		for _, node := range []int{1, 3} {
			checkVote(t, b, Open, node, true)
		}
		checkVote(t, b, Open, n, true)
		checkVote(t, b, Committed, 16, true)
		checkVote(t, b, Committed, n, false)
		checkAck(t, b, false, n)
		checkAck(t, b, false, n, 3, n)
		checkIs(t, b, Committed, false, 1, 16)
		checkItems(t, b, nil, n)
		checkItems(t, b, parts()[1].Items, n, 3)
		checkHas(t, b, name(), parts()...)
	}
}

// P19.1: an open ballot that is given up is aborted; any other one stays what it is.
func TestGiveUp(t *testing.T) {
	b := newBallot(t, parts()...)
	checkVote(t, b, Open, 3, true)
	for range 2 {
		if got := b.GiveUp(); got != Aborted {
			t.Errorf("GiveUp: %d", got)
		}
		checkIs(t, b, Aborted, true)
	}
	checkVote(t, b, Aborted, 1, true)
	checkVote(t, b, Aborted, 16, true)
	checkHas(t, b, name(), parts()...)

	b = newBallot(t, parts()...)
	checkVote(t, b, Aborted, 3, false)
	if got := b.GiveUp(); got != Aborted {
		t.Errorf("GiveUp of an aborted one: %d", got)
	}

	b = committed(t, parts()...)
	if got := b.GiveUp(); got != Committed {
		t.Errorf("GiveUp of a committed one: %d", got)
	}
	checkIs(t, b, Committed, false, 1, 3, 16)
}

// committed is a ballot of which each part has voted yes.
func committed(t *testing.T, l ...Part) *Ballot {
	t.Helper()
	b := newBallot(t, l...)
	for _, p := range l {
		b.Vote(p.Node, true)
	}
	checkIs(t, b, Committed, false, b.Nodes()...)
	return b
}

// P19.1: a committed one is over when all have acknowledged, one by one or together, in each order, once or again.
func TestAck(t *testing.T) {
	b := committed(t, parts()...)
	checkAck(t, b, false)
	checkAck(t, b, false, 3)
	checkIs(t, b, Committed, false, 1, 16)
	checkAck(t, b, false, 3, 3, 3)
	checkAck(t, b, false, 16)
	checkIs(t, b, Committed, false, 1)
	checkVote(t, b, Committed, 3, false)
	checkVote(t, b, Committed, 3, true)
	checkIs(t, b, Committed, false, 1)
	checkAck(t, b, true, 1)
	checkIs(t, b, Committed, true)
	checkAck(t, b, true)
	checkAck(t, b, true, 1, 9)
	checkHas(t, b, name(), parts()...)
	for _, l := range [][]int{{1, 3, 16}, {16, 3, 1}, {3, 1, 16, 3}, {0, 16, -5, 1, 17, 3}} {
		b := committed(t, parts()...)
		checkAck(t, b, true, l...)
		checkIs(t, b, Committed, true)
	}
	b = committed(t, part(9, 3))
	checkAck(t, b, true, 9)
	checkIs(t, b, Committed, true)
}

// P19.1: what is acknowledged of an open one doesn't count, neither then nor later.
func TestAckOpen(t *testing.T) {
	b := newBallot(t, parts()...)
	checkAck(t, b, false, 1, 3, 16)
	checkIs(t, b, Open, false, 1, 3, 16)
	checkVote(t, b, Open, 1, true)
	checkAck(t, b, false, 1)
	checkVote(t, b, Open, 3, true)
	checkVote(t, b, Committed, 16, true)
	checkIs(t, b, Committed, false, 1, 3, 16)
}

// P19.1: items are told by their cells, whatever the order in which their nodes are named, and once, however often they are.
func TestItems(t *testing.T) {
	b, l := newBallot(t, parts()...), parts()
	all := item.Join(l[0].Items, l[1].Items, l[2].Items)
	if len(all) != 6 || all[0].Cell != 0 || all[1].Cell != 4 || all[5].Cell != 15 {
		t.Fatal(all)
	}
	checkItems(t, b, all)
	checkItems(t, b, all, []int{}...)
	checkItems(t, b, all, 16, 3, 1)
	checkItems(t, b, all, 1, 3, 1, 16, 3)
	checkItems(t, b, item.Join(l[0].Items, l[1].Items), 3, 1)
	checkItems(t, b, item.Join(l[1].Items, l[2].Items), 16, 3)
	checkItems(t, b, item.Join(l[0].Items, l[2].Items), 1, 1, 16)
	checkItems(t, b, l[2].Items, 16, 2, 0, -1)
	checkItems(t, b, nil, 2)
}

// P19.1: a nil ballot is an aborted one without a name and parts.
func TestNil(t *testing.T) {
	var b *Ballot
	for range 2 {
		checkVote(t, b, Aborted, 1, true)
		checkVote(t, b, Aborted, 0, false)
		checkAck(t, b, true)
		checkAck(t, b, true, 1, 2)
		if got := b.GiveUp(); got != Aborted {
			t.Errorf("GiveUp: %d", got)
		}
		checkIs(t, b, Aborted, true)
		checkHas(t, b, api.Tid{})
		checkItems(t, b, nil, 1)
	}
}

// A ballot that New didn't make has no parts, and is committed, as any one of which none has to vote.
func TestZero(t *testing.T) {
	var b Ballot
	checkVote(t, &b, Committed, 1, false)
	checkAck(t, &b, true, 1)
	if got := b.GiveUp(); got != Committed {
		t.Errorf("GiveUp: %d", got)
	}
	checkIs(t, &b, Committed, true)
	checkHas(t, &b, api.Tid{})
}

// Rule 2: nothing that is handed in or out is shared with what is kept, or written into.
func TestMemory(t *testing.T) {
	l := parts()
	b := newBallot(t, l...)
	for i := range l {
		for j := range l[i].Items {
			l[i].Items[j] = api.Item{Cell: 1}
		}
		l[i] = Part{}
	}
	checkHas(t, b, name(), parts()...)
	for range 2 {
		for _, items := range [][]api.Item{b.Items(), b.Items(3), b.Items(1, 16)} {
			for i := range items {
				items[i] = api.Item{Cell: 2}
			}
			_ = append(items, api.Item{Cell: 3})
		}
		for _, nodes := range [][]int{b.Nodes(), b.Waits()} {
			for i := range nodes {
				nodes[i] = 9
			}
			_ = append(nodes, 8)
		}
	}
	checkIs(t, b, Open, false, 1, 3, 16)
	checkHas(t, b, name(), parts()...)

	handed := []int{16, 1, 3, 1}
	b = committed(t, parts()...)
	b.Items(handed...)
	b.Ack(handed...)
	if !slices.Equal(handed, []int{16, 1, 3, 1}) {
		t.Errorf("nodes that were handed in: %v", handed)
	}
	given := parts()
	newBallot(t, given...)
	if !slices.EqualFunc(given, parts(), func(p, q Part) bool { return p.Node == q.Node && slices.Equal(p.Items, q.Items) }) {
		t.Errorf("parts that were handed in: %v", given)
	}
}

// P19.1: two ballots have nothing to do with one another.
func TestTwoBallots(t *testing.T) {
	l := parts()
	a, b := newBallot(t, l...), newBallot(t, l...)
	checkVote(t, a, Open, 1, true)
	checkVote(t, b, Aborted, 1, false)
	checkIs(t, a, Open, false, 3, 16)
	checkIs(t, b, Aborted, true)
}
