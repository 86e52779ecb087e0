package net

import (
	"slices"
	"strconv"
	"strings"
	"testing"

	"remuda/api"
)

// network is what a net can do; the model below does the same by other means.
type network interface {
	Send(l ...Packet) int
	Take(i int) (Packet, api.Errno)
	Double(i int) api.Errno
	Spoil(i, at int, by byte) api.Errno
	Cut(a, b int) api.Errno
	Heal(a, b int) api.Errno
	HealAll()
	Len() int
	All() []Packet
}

// model is a net as the chapter's words have it: each packet at a number of its own, that only grows, so that they are told in order; of each two nodes, from either side, whether their way is cut.
type model struct {
	nodes   int
	next    int
	packets map[int]Packet
	cut     [17][17]bool
}

func newModel(nodes int) *model { return &model{nodes: nodes, packets: map[int]Packet{}} }

func (m *model) put(p Packet) {
	m.packets[m.next] = p
	m.next++
}

// at is the number of the packet that stands at i, or -1.
func (m *model) at(i int) int {
	for x := range m.next {
		if _, ok := m.packets[x]; !ok {
			continue
		}
		if i == 0 {
			return x
		}
		i--
	}
	return -1
}

func (m *model) isNode(a int) bool { return 1 <= a && a <= m.nodes }

func (m *model) Send(l ...Packet) int {
	lost := 0
	for _, p := range l {
		switch {
		case !m.isNode(p.From), !m.isNode(p.To), p.From == p.To, m.cut[p.From][p.To], len(m.packets) == 256:
			lost++
		default:
			m.put(p)
		}
	}
	return lost
}

func (m *model) Take(i int) (Packet, api.Errno) {
	x := m.at(i)
	if x < 0 {
		return Packet{}, api.ErrNone
	}
	p := m.packets[x]
	delete(m.packets, x)
	return p, api.OK
}

func (m *model) Double(i int) api.Errno {
	x := m.at(i)
	switch {
	case x < 0:
		return api.ErrNone
	case len(m.packets) == 256:
		return api.ErrFull
	}
	m.put(m.packets[x])
	return api.OK
}

func (m *model) Spoil(i, at int, by byte) api.Errno {
	x := m.at(i)
	p := m.packets[x]
	switch {
	case x < 0:
		return api.ErrNone
	case p.Spoilt:
		return api.ErrThere
	case at < 0, at >= len(p.Bytes), by == 0:
		return api.ErrArg
	}
	m.packets[x] = Packet{p.From, p.To, p.Bytes[:at] + string([]byte{p.Bytes[at] ^ by}) + p.Bytes[at+1:], true}
	return api.OK
}

func (m *model) set(a, b int, cut bool) api.Errno {
	if !m.isNode(a) || !m.isNode(b) || a == b {
		return api.ErrArg
	}
	m.cut[a][b], m.cut[b][a] = cut, cut
	return api.OK
}

func (m *model) Cut(a, b int) api.Errno  { return m.set(a, b, true) }
func (m *model) Heal(a, b int) api.Errno { return m.set(a, b, false) }
func (m *model) HealAll()                { m.cut = [17][17]bool{} }
func (m *model) Len() int                { return len(m.packets) }

func (m *model) All() []Packet {
	var l []Packet
	for x := range m.next {
		if p, ok := m.packets[x]; ok {
			l = append(l, p)
		}
	}
	return l
}

// told is what a call answered.
type told struct {
	lost int
	p    Packet
	e    api.Errno
}

type call func(n network) told

func sends(l ...Packet) call { return func(n network) told { return told{lost: n.Send(l...)} } }

func takes(i int) call {
	return func(n network) told {
		p, e := n.Take(i)
		return told{p: p, e: e}
	}
}

func doubles(i int) call { return func(n network) told { return told{e: n.Double(i)} } }

func spoils(i, at int, by byte) call {
	return func(n network) told { return told{e: n.Spoil(i, at, by)} }
}

func cuts(a, b int) call  { return func(n network) told { return told{e: n.Cut(a, b)} } }
func heals(a, b int) call { return func(n network) told { return told{e: n.Heal(a, b)} } }

func healsAll() call {
	return func(n network) told {
		n.HealAll()
		return told{}
	}
}

// calls is calls of every kind, among two nodes and a third that is none.
func calls() []call {
	return []call{
		sends(),
		sends(Packet{1, 2, "ab", false}),
		sends(Packet{2, 1, "", false}, Packet{1, 1, "x", false}, Packet{2, 1, "c", false}),
		sends(Packet{1, 3, "y", false}),
		takes(-1), takes(0), takes(1),
		doubles(-1), doubles(0), doubles(1),
		spoils(0, 0, 3), spoils(0, 1, 1), spoils(1, 0, 1), spoils(2, 0, 1),
		cuts(1, 2), cuts(2, 2), cuts(3, 1),
		heals(2, 1), heals(0, 1),
		healsAll(),
	}
}

// checkOrders makes all lists of so many calls at a net and at its model, each among two nodes with these packets under way, and tells whether both answer the same and have the same then. What a list leaves behind its calls but the last is seen by that one, or by the lists that are shorter.
func checkOrders(t *testing.T, long int, first ...Packet) {
	t.Helper()
	l := calls()
	all := 1
	for range long {
		all *= len(l)
	}
	for i := range all {
		n, m := fresh(t, 2), newModel(2)
		n.Send(first...)
		m.Send(first...)
		for j, rest := 0, i; j < long; j, rest = j+1, rest/len(l) {
			c := l[rest%len(l)]
			if got, want := c(n), c(m); got != want || n.Len() != m.Len() {
				t.Fatalf("the list %d, the call %d of it (%d): %v, want %v", i, j, rest%len(l), got, want)
			}
		}
		if !slices.Equal(n.All(), m.All()) {
			t.Fatalf("the list %d: under way are %s, want %s", i, brief(n.All()), brief(m.All()))
		}
	}
}

// P11.1: in every order, of up to five calls, the net does what its model does, whether nothing is under way at first, or nearly all that may be.
func TestEveryOrder(t *testing.T) {
	for long := range 6 {
		checkOrders(t, long)
	}
	for long := range 4 {
		checkOrders(t, long, slices.Repeat([]Packet{{1, 2, "ab", false}, {2, 1, "c", false}}, 127)...)
		checkOrders(t, long, slices.Repeat([]Packet{{1, 2, "ab", false}, {2, 1, "c", false}}, 128)[:255]...)
	}
}

// P11.1: in long orders, among each count of nodes, with few packets under way and with all that may be.
func TestLongOrders(t *testing.T) {
	r := chance()
	for run := range 160 {
		nodes := 1 + run%16
		n, m := fresh(t, nodes), newModel(nodes)
		most := 3 << r.IntN(8) // a Take is as likely as a Send when there are so many
		for i := range 600 {
			node := func() int { return 1 + r.IntN(nodes+1) - r.IntN(12)/11 }
			place := r.IntN(m.Len()+3) - 1
			c := []call{
				sends(),
				sends(Packet{node(), node(), strings.Repeat(strconv.Itoa(i), r.IntN(3)), i%9 == 0}),
				sends(Packet{node(), node(), "a" + strconv.Itoa(i), false}, Packet{node(), node(), "b" + strconv.Itoa(i), false}, Packet{node(), node(), "c" + strconv.Itoa(i), false}),
				takes(place), doubles(place), doubles(place),
				spoils(place, r.IntN(6)-1, byte(r.IntN(4))),
				cuts(node(), node()), heals(node(), node()), heals(node(), node()),
				healsAll(),
			}[r.IntN(10+r.IntN(2))]
			if m.Len() > most {
				c = takes(place)
			}
			if got, want := c(n), c(m); got != want || n.Len() != m.Len() || !slices.Equal(n.All(), m.All()) {
				t.Fatalf("the run %d, the call %d: %v, want %v; under way are %s, want %s", run, i, got, want, brief(n.All()), brief(m.All()))
			}
		}
	}
}

// differ is how many bytes of two texts, of which none is the longer one, aren't the same.
func differ(s, t string) int {
	many := 0
	for i := range min(len(s), len(t)) {
		if s[i] != t[i] {
			many++
		}
	}
	return many
}

// P11.2: over long runs, each packet is taken no more often than it was sent, and not lost, and doubled; at the end of all, just as often. Of what is spoilt one byte is another one, and it says so.
func TestTakenWasSent(t *testing.T) {
	r := chance()
	for run := range 40 {
		nodes := 2 + r.IntN(15)
		n := fresh(t, nodes)
		var sent []Packet // by the number with which its bytes begin
		var there []int   // how many of it may be taken
		most := 8 << (run % 7)
		count := func(p Packet, by int) {
			t.Helper()
			number, _, _ := strings.Cut(p.Bytes, ":")
			x, err := strconv.Atoi(number)
			if err != nil || x < 0 || x >= len(sent) || there[x]+by < 0 {
				t.Fatalf("%v is none that was sent so often", p)
			}
			there[x] += by
			s := sent[x]
			if p.From != s.From || p.To != s.To || len(p.Bytes) != len(s.Bytes) || (differ(p.Bytes, s.Bytes) == 1) != p.Spoilt || differ(p.Bytes, s.Bytes) > 1 {
				t.Fatalf("%v is not as it was sent, %v", p, s)
			}
		}
		for range 3000 {
			switch place := r.IntN(n.Len() + 1); {
			case n.Len() > most || r.IntN(4) == 0:
				if p, e := n.Take(place); e == api.OK {
					count(p, -1)
				}
			case r.IntN(4) == 0:
				l := n.All()
				if n.Double(place) == api.OK {
					count(l[place], 1)
				}
			case r.IntN(4) == 0:
				if l := n.All(); place < len(l) { // the number stays as it is, so that it is known again
					n.Spoil(place, len(l[place].Bytes)-1-r.IntN(3), byte(1+r.IntN(255)))
				}
			case r.IntN(4) == 0:
				n.Cut(1+r.IntN(nodes), 1+r.IntN(nodes))
				n.Heal(1+r.IntN(nodes), 1+r.IntN(nodes))
			default:
				p := Packet{1 + r.IntN(nodes), r.IntN(nodes + 2), strconv.Itoa(len(sent)) + ":xyz", false}
				sent, there = append(sent, p), append(there, 1-n.Send(p))
			}
		}
		for n.Len() > 0 {
			p, e := n.Take(r.IntN(n.Len()))
			checkError(t, "Take of one that is there", e, api.OK)
			count(p, -1)
		}
		for x, more := range there {
			if more != 0 {
				t.Errorf("%v could be taken %d times more", sent[x], more)
			}
		}
	}
}

// Rule 5: the same calls lead to the same net, whatever was in it ahead of them.
func TestSameCallsSameNet(t *testing.T) {
	for seed := range 20 {
		a, b := fresh(t, 16), fresh(t, 16)
		for range 100 + seed {
			b.Send(Packet{1, 2, "gone", false})
			b.Cut(1+seed%16, 1+(seed+3)%16)
			b.Take(0)
		}
		b.HealAll()
		for i := range 500 {
			x, y := 1+i*7%16, 1+i*11%15
			for _, n := range []*Net{a, b} {
				n.Send(Packet{x, y, strconv.Itoa(i), false})
				n.Cut(y, x%5)
				n.Double(i % (seed + 5))
				n.Heal(x, y%7)
				n.Spoil(i%9, 0, byte(i))
				if i%3 > 0 {
					n.Take(i % 13)
				}
			}
			if !slices.Equal(a.All(), b.All()) {
				t.Fatalf("the seed %d, behind the step %d: %s and %s", seed, i, brief(a.All()), brief(b.All()))
			}
		}
	}
}
