package arrow

import (
	"fmt"
	"slices"
	"testing"

	"remuda/api"
)

// field is the arrows of one cell at all nodes, node 1's first.
func field(t *testing.T, nodes, owner int) []Arrow {
	t.Helper()
	var l []Arrow
	for node := 1; node <= nodes; node++ {
		l = append(l, newArrow(t, node, nodes, owner))
	}
	return l
}

// checkLead tells whether all arrows lead to a node, along the tree.
func checkLead(t *testing.T, l []Arrow, to int) {
	t.Helper()
	for i, a := range l {
		if a != (Arrow{i + 1, len(l), toward(i+1, to)}) {
			t.Fatalf("they don't lead to %d: %v", to, l)
		}
	}
}

// walk lets a node ask, and its find go till it ends: the nodes that it was at, from who asked on; that one alone, if no find went.
func walk(t *testing.T, l []Arrow, asker int) []int {
	t.Helper()
	gone := []int{asker}
	to, goes := l[asker-1].Want()
	for goes {
		from := gone[len(gone)-1]
		if !neighbours(from, to, len(l)) || len(gone) > len(l) {
			t.Fatalf("the find of %d, behind %v, goes to %d", asker, gone, to)
		}
		gone = append(gone, to)
		next, ends, e := l[to-1].Find(from)
		if e != api.OK {
			t.Fatalf("the find of %d, behind %v: %d", asker, gone, e)
		}
		to, goes = next, !ends
	}
	return gone
}

// checkWalk lets a node ask: the find takes the way to the one that asked ahead of it, ends there, and all lead to who asked.
func checkWalk(t *testing.T, l []Arrow, asker, ahead int) {
	t.Helper()
	if gone := walk(t, l, asker); !slices.Equal(gone, way(asker, ahead)) {
		t.Fatalf("of %d nodes, %d asked ahead: the find of %d is at %v", len(l), ahead, asker, gone)
	}
	checkLead(t, l, asker)
}

// P16.2: on every tree, from every first owner, every two that ask, and the second one once more.
func TestOneBehindTheOther(t *testing.T) {
	for nodes := 1; nodes <= most; nodes++ {
		for owner := 1; owner <= nodes; owner++ {
			checkLead(t, field(t, nodes, owner), owner)
			for first := 1; first <= nodes; first++ {
				for second := 1; second <= nodes; second++ {
					l := field(t, nodes, owner)
					checkWalk(t, l, first, owner)
					checkWalk(t, l, second, first)
					checkWalk(t, l, second, second)
				}
			}
		}
	}
}

// P16.2: many, one behind the other, the first owner among them.
func TestManyBehindOneAnother(t *testing.T) {
	r := chance()
	for nodes := 1; nodes <= most; nodes++ {
		for owner := 1; owner <= nodes; owner++ {
			l := field(t, nodes, owner)
			for ahead := owner; r.IntN(300) > 0; {
				asker := 1 + r.IntN(nodes)
				checkWalk(t, l, asker, ahead)
				ahead = asker
			}
		}
	}
}

// leg is where a find is on its way: between two neighbours; nowhere, if it ended.
type leg struct{ from, to int }

// play is what goes on about one cell. Askings are told apart by numbers; 0 is the first owner's, of which no find goes.
type play struct {
	books   []*Book // node 1's first; nodes may share these with other plays, each of another cell
	cell    int
	askers  []int // of each asking, who asked
	legs    []leg // of each asking, where its find is
	hops    []int // of each asking, how far its find went
	behind  []int // of each asking, the one at which its find ended; -1: none yet
	ended   []int // of each asking, how many finds ended at it
	latest  []int // of each node, node 1's first, its latest asking; -1: none
	running int   // how many finds are under way
}

func newPlay(books []*Book, cell, owner int) *play {
	p := &play{books: books, cell: cell, latest: slices.Repeat([]int{-1}, len(books))}
	p.number(owner, leg{})
	return p
}

// number gives an asking its number.
func (p *play) number(asker int, l leg) {
	p.latest[asker-1] = len(p.askers)
	p.askers = append(p.askers, asker)
	p.legs = append(p.legs, l)
	p.hops = append(p.hops, 0)
	p.behind = append(p.behind, -1)
	p.ended = append(p.ended, 0)
}

func (p *play) clone() *play {
	q := *p
	q.books = nil
	for _, b := range p.books {
		q.books = append(q.books, &Book{slices.Clone(b.arrows)})
	}
	for _, l := range []*[]int{&q.askers, &q.hops, &q.behind, &q.ended, &q.latest} {
		*l = slices.Clone(*l)
	}
	q.legs = slices.Clone(p.legs)
	return &q
}

// key is all in which two plays differ that may go on otherwise.
func (p *play) key() string {
	var to []byte
	for _, b := range p.books {
		to = append(to, byte(b.To(p.cell)))
	}
	return fmt.Sprint(to, p.askers, p.legs, p.behind)
}

// ask lets a node ask. A find goes, but where it asked already, or was the first owner, and nobody's find ended there since.
func (p *play) ask(t *testing.T, node int) {
	t.Helper()
	k := p.latest[node-1]
	waits := k >= 0 && p.ended[k] == 0
	to, goes, e := p.books[node-1].Want(p.cell)
	if e != api.OK || goes == waits || (to != 0) != goes || goes && !neighbours(node, to, len(p.books)) {
		t.Fatalf("%d asks: %d, %v, %d; it waits already: %v; %+v", node, to, goes, e, waits, p)
	}
	if goes {
		p.number(node, leg{node, to})
		p.running++
	}
}

// step lets an asking's find come to where it goes.
func (p *play) step(t *testing.T, k int) {
	t.Helper()
	at := p.legs[k]
	to, ends, e := p.books[at.to-1].Find(p.cell, at.from)
	p.hops[k]++
	if e != api.OK || ends != (to == 0) || p.hops[k] >= len(p.books) {
		t.Fatalf("the find %d at %v: %d, %v, %d; %+v", k, at, to, ends, e, p)
	}
	if !ends {
		if !neighbours(at.to, to, len(p.books)) || to == at.from {
			t.Fatalf("the find %d at %v goes to %d; %+v", k, at, to, p)
		}
		p.legs[k] = leg{at.to, to}
		return
	}
	j := p.latest[at.to-1]
	if j < 0 || at.to == p.askers[k] || p.ended[j] > 0 {
		t.Fatalf("the find %d of %d ends at %d, of which the latest asking is %d; %+v", k, p.askers[k], at.to, j, p)
	}
	p.legs[k], p.behind[k] = leg{}, j
	p.ended[j]++
	p.running--
}

// checkOver tells, once no find is under way, whether all askings stand behind one another, from the first owner's on, and all arrows lead to who asked as the last one.
func (p *play) checkOver(t *testing.T) {
	t.Helper()
	last, many := 0, 1
	for next := slices.Index(p.behind, 0); next >= 0; next = slices.Index(p.behind, next) {
		last = next
		many++
	}
	if many != len(p.askers) {
		t.Fatalf("%d of %d askings stand behind one another: %+v", many, len(p.askers), p)
	}
	for i, b := range p.books {
		if b.To(p.cell) != toward(i+1, p.askers[last]) {
			t.Fatalf("the arrow of %d points to %d, and %d asked as the last one: %+v", i+1, b.To(p.cell), p.askers[last], p)
		}
	}
}

// shelf is the books of all nodes, node 1's first.
func shelf(t *testing.T, nodes int, owners ...int) []*Book {
	t.Helper()
	var l []*Book
	for node := 1; node <= nodes; node++ {
		l = append(l, newBook(t, node, nodes, owners...))
	}
	return l
}

// everyOrder goes through all that may happen till so many have asked and all finds ended: who asks when, and which find goes when.
func everyOrder(t *testing.T, first *play, askings int) {
	seen := map[string]bool{}
	var try func(p *play)
	try = func(p *play) {
		k := p.key()
		if seen[k] {
			return
		}
		seen[k] = true
		if p.running == 0 {
			p.checkOver(t)
		}
		for k, at := range p.legs {
			if at != (leg{}) {
				q := p.clone()
				q.step(t, k)
				try(q)
			}
		}
		if len(p.askers) > askings {
			return
		}
		for node := range p.books {
			q := p.clone()
			q.ask(t, node+1)
			try(q)
		}
	}
	try(first)
}

// P16.3: all orders in which finds may go, on the small trees, from every first owner.
func TestEveryOrderOfFinds(t *testing.T) {
	for nodes, askings := range []int{0, 3, 8, 6, 5, 4, 4, 3} {
		for owner := 1; owner <= nodes; owner++ {
			everyOrder(t, newPlay(shelf(t, nodes, owner), 0, owner), askings)
		}
	}
}

// somewhere lets a find of those under way come to where it goes, if there is one.
func (p *play) somewhere(t *testing.T, pick func(int) int) {
	t.Helper()
	var under []int
	for k, at := range p.legs {
		if at != (leg{}) {
			under = append(under, k)
		}
	}
	if len(under) > 0 {
		p.step(t, under[pick(len(under))])
	}
}

// P16.3: long plays on every tree, of all cells at once in the same books, with few and with many finds under way.
func TestLongPlays(t *testing.T) {
	r := chance()
	for run := range 20 * most {
		nodes := 1 + run%most
		var owners []int
		for range 1 + r.IntN(cells) {
			owners = append(owners, 1+r.IntN(nodes))
		}
		books := shelf(t, nodes, owners...)
		var plays []*play
		for cell, owner := range owners {
			plays = append(plays, newPlay(books, cell, owner))
		}
		rare := 1 + r.IntN(9)
		busy := 0
		for range 400 {
			p := plays[r.IntN(len(plays))]
			if r.IntN(rare) == 0 {
				p.ask(t, 1+r.IntN(nodes))
			} else {
				p.somewhere(t, r.IntN)
			}
			busy = max(busy, p.running)
		}
		if nodes > 8 && rare == 1 && busy < 4 {
			t.Errorf("the run %d: never more than %d finds at once about one cell", run, busy)
		}
		for _, p := range plays {
			for p.running > 0 {
				p.somewhere(t, r.IntN)
			}
			p.checkOver(t)
		}
	}
}

// P16.3: all nodes ask at once, and the finds go in turns, the eldest first or the newest first.
func TestAllAskAtOnce(t *testing.T) {
	for nodes := 1; nodes <= most; nodes++ {
		for owner := 1; owner <= nodes; owner++ {
			for _, pick := range []func(int) int{func(int) int { return 0 }, func(n int) int { return n - 1 }} {
				p := newPlay(shelf(t, nodes, owner), 0, owner)
				for range 3 {
					for node := 1; node <= nodes; node++ {
						p.ask(t, node)
					}
					for p.running > 0 {
						p.somewhere(t, pick)
					}
					p.checkOver(t)
				}
			}
		}
	}
}
