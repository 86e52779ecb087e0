package keep

import (
	"math/rand/v2"
	"testing"

	"remuda/api"
	"remuda/disk"
	"remuda/frame"
	"remuda/ledger"
	"remuda/record"
)

func chance() *rand.Rand { return rand.New(rand.NewPCG(1, 2)) }

// model is a keeper as the chapter's words have it, on a disk of its own: it knows no state, but all records that count, from the first one on.
type model struct {
	d                  *disk.Disk
	node, nodes, cells int
	history            []record.Record
	over               bool
}

// state is what the records come to, reckoned anew each time.
func (m *model) state() ledger.State {
	s, _ := ledger.First(m.node, m.nodes, m.cells)
	s, _ = ledger.Apply(s, m.history...)
	return s
}

func framed(l []record.Record) string {
	var all string
	for _, r := range l {
		s, _ := record.Encode(r)
		f, _ := frame.Seal(s)
		all += f
	}
	return all
}

// did is what the disk answered: one that goes down takes the keeper with it.
func (m *model) did(e api.Errno) api.Errno {
	m.over = m.over || e == api.ErrDown
	return e
}

func (m *model) put(force bool, l []record.Record) api.Errno {
	s := framed(l)
	if len(s)+len(m.d.Bytes()) > m.d.Size() {
		return api.ErrFull
	}
	if len(l) > 0 {
		if e := m.did(m.d.Append(s)); e != api.OK {
			return e
		}
	}
	if !force {
		return api.OK
	}
	return m.did(m.d.Sync())
}

func (m *model) renew() api.Errno {
	if m.over {
		return api.ErrDown
	}
	elder := len(m.d.Bytes())
	if e := m.put(true, append(ledger.Records(m.state()), whole)); e != api.OK {
		return e
	}
	return m.did(m.d.Drop(elder))
}

func (m *model) log(force bool, l []record.Record) api.Errno {
	if m.over {
		return api.ErrDown
	}
	for _, r := range l {
		if r.Kind == 1 || r.Kind == 12 {
			return api.ErrArg
		}
	}
	if _, e := ledger.Apply(m.state(), l...); e != api.OK {
		return e
	}
	if 2*(len(m.d.Bytes())+len(framed(l))) > m.d.Size() {
		if e := m.renew(); e == api.ErrDown {
			return e
		}
	}
	e := m.put(force, l)
	if e == api.OK {
		m.history = append(m.history, l...)
	}
	return e
}

// groups is the records of a disk that count: whole groups, each of a record alone, or of a Base up to the next Whole.
func groups(l []record.Record) [][]record.Record {
	var all [][]record.Record
	for len(l) > 0 {
		n := 1
		if l[0].Kind == 1 {
			for n < len(l) && l[n-1].Kind != 12 {
				n++
			}
			if l[n-1].Kind != 12 {
				return all
			}
		}
		all = append(all, l[:n])
		l = l[n:]
	}
	return all
}

// open opens the model's disk anew, as that of a node; if it can't be one it stays as it was.
func (m *model) open(node, nodes, cells int) api.Errno {
	s, e := ledger.First(node, nodes, cells)
	if e != api.OK {
		return e
	}
	if m.d.Down() {
		return api.ErrDown
	}
	l, _ := frame.All(m.d.Bytes())
	records, e := record.All(l...)
	if e != api.OK {
		return api.ErrForm
	}
	var history []record.Record
	for _, g := range groups(records) {
		if s, e = ledger.Apply(s, g...); e != api.OK {
			return api.ErrForm
		}
		history = append(history, g...)
	}
	if s.Node != node || s.Nodes != nodes || s.Cells != cells {
		return api.ErrForm
	}
	m.d.Cut(len(framed(history)))
	*m = model{d: m.d, node: node, nodes: nodes, cells: cells, history: history}
	return api.OK
}

// pair is a keeper on its disk, and the model of both.
type pair struct {
	k *Keep
	d *disk.Disk
	m *model
}

func newPair(t *testing.T, size, node, nodes, cells int) *pair {
	t.Helper()
	p := &pair{d: fresh(t, size), m: &model{d: fresh(t, size)}}
	if !p.open(node, nodes, cells) {
		t.Fatal("no keeper")
	}
	return p
}

// Steps: what is done to both, and whether both answer the same.
func (p *pair) log(force bool, l ...record.Record) bool {
	return p.k.Log(force, l...) == p.m.log(force, l)
}
func (p *pair) renew() bool { return p.k.Renew() == p.m.renew() }

func (p *pair) open(node, nodes, cells int) bool {
	k, e := Open(p.d, node, nodes, cells)
	if (k == nil) != (e != api.OK) {
		return false
	}
	if k != nil {
		p.k = k
	}
	return e == p.m.open(node, nodes, cells)
}

func (p *pair) again() bool { return p.open(p.m.node, p.m.nodes, p.m.cells) }

func (p *pair) fuse(n int) bool {
	p.d.Fuse(n)
	p.m.d.Fuse(n)
	return true
}

func (p *pair) crash(keep int) bool {
	p.d.Crash(keep)
	p.m.d.Crash(keep)
	return p.again()
}

func (p *pair) goDown() bool {
	p.fuse(0)
	return p.d.Sync() == p.m.d.Sync()
}

// same tells whether the keeper and the model are the same, and their disks.
func (p *pair) same() bool {
	n := len(p.m.d.Bytes())
	if p.m.over {
		n = 0
	}
	return p.d.Bytes() == p.m.d.Bytes() && p.d.Safe() == p.m.d.Safe() && p.d.Down() == p.m.d.Down() &&
		p.k.Len() == n && p.k.Over() == p.m.over && same(p.k.State(), p.m.state())
}

// next is the name of a transaction that isn't known.
func next(s ledger.State) api.Tid { return own(1 + len(s.Prepared) + len(s.Decided)) }

// prepares is a Prepared of the cell 0, which can follow if that isn't locked.
func prepares(s ledger.State) record.Record {
	r := wrote(next(s), 0, s.Places[0].Version, s.Epoch)
	r.Nodes = []int{s.Node}
	return r
}

// decides is a Done of what is prepared, if something is.
func decides(s ledger.State, yes bool) record.Record {
	if len(s.Prepared) == 0 {
		return done(own(99), yes)
	}
	return done(s.Prepared[0].Tid, yes)
}

// steps is steps of every kind.
func steps() []func(p *pair) bool {
	return []func(p *pair) bool{
		func(p *pair) bool { return p.log(true) },
		func(p *pair) bool { return p.log(false) },
		func(p *pair) bool { return p.log(true, epoch(p.m.state().Epoch+1)) },
		func(p *pair) bool { return p.log(false, prepares(p.m.state())) },
		func(p *pair) bool { s := p.m.state(); return p.log(true, epoch(s.Epoch+1), decides(s, true)) },
		func(p *pair) bool { e := epoch(p.m.state().Epoch + 1); return p.log(false, e, e) },
		func(p *pair) bool { return p.log(true, prepares(p.m.state()), whole) },
		(*pair).renew,
		(*pair).again,
		func(p *pair) bool { return p.open(1, 2, 2) },
		func(p *pair) bool { return p.fuse(20) },
		func(p *pair) bool { return p.fuse(130) },
		func(p *pair) bool { return p.crash(0) },
		func(p *pair) bool { return p.crash(50) },
		func(p *pair) bool { return p.crash(1000) },
		(*pair).goDown,
	}
}

// P9.1: in every order, of up to four steps, the keeper does what its model does.
func TestEveryOrder(t *testing.T) {
	l := steps()
	all := len(l) * len(l) * len(l) * len(l)
	for i := range all { // all lists of four: their beginnings are all shorter ones
		p := newPair(t, 250, 1, 1, 1)
		for k, rest := 0, i; k < 4; k, rest = k+1, rest/len(l) {
			if !l[rest%len(l)](p) || !p.same() {
				t.Fatalf("the list %d, the step %d of it (%d): the disk has %x, the model %x; state %+v, want %+v", i, k, rest%len(l), p.d.Bytes(), p.m.d.Bytes(), p.k.State(), p.m.state())
			}
		}
	}
}

func pick[T any](r *rand.Rand, l ...T) T { return l[r.IntN(len(l))] }

// anyItems are of cells that a state owns, mostly with their versions.
func anyItems(r *rand.Rand, s ledger.State) []api.Item {
	var l []api.Item
	for c, p := range s.Places {
		if r.IntN(2) == 0 && (p.Status == 1 || r.IntN(9) == 0) {
			x := api.Item{Cell: c, Version: p.Version, Value: p.Value, Write: r.IntN(2) == 0}
			if x.Write {
				x.New = r.IntN(100)
			}
			l = append(l, x)
		}
	}
	return l
}

// anyTid is one of a state's names, or one that isn't known.
func anyTid(r *rand.Rand, s ledger.State) api.Tid {
	l := []api.Tid{next(s), own(1 + r.IntN(9))}
	for _, p := range s.Prepared {
		l = append(l, p.Tid, p.Tid)
	}
	for _, c := range s.Commits {
		l = append(l, c.Tid)
	}
	t := pick(r, l...)
	if r.IntN(3) == 0 {
		t.Node = s.Node
	}
	return t
}

// anyRecord is one that often can follow on a state.
func anyRecord(r *rand.Rand, s ledger.State) record.Record {
	cell := r.IntN(len(s.Places))
	p := s.Places[cell]
	switch r.IntN(12) {
	case 0, 1:
		return epoch(s.Epoch + 1 - r.IntN(9)/8)
	case 2, 3:
		return record.Record{Kind: record.Prepared, Tid: next(s), Items: anyItems(r, s), Nodes: []int{s.Node}}
	case 4, 5:
		return done(anyTid(r, s), r.IntN(2) == 0)
	case 6:
		return record.Record{Kind: record.Commit, Tid: api.Tid{Node: s.Node, Epoch: 1, Seq: 1 + len(s.Commits)}, Items: anyItems(r, s), Nodes: []int{s.Node}}
	case 7:
		return record.Record{Kind: record.End, Tid: anyTid(r, s)}
	case 8:
		return record.Record{Kind: record.Out, Cell: cell, Hop: p.Hop + 1, Node: s.Node%s.Nodes + 1}
	case 9:
		return record.Record{Kind: record.In, Cell: cell, Hop: p.Hop + 1 + r.IntN(2), Version: r.IntN(5), Value: r.IntN(100)}
	case 10:
		return record.Record{Kind: record.Gone, Cell: cell, Hop: p.Hop}
	}
	return pick(r, base(s.Node, s.Nodes, s.Cells), whole, cellIs(cell, 1, 2), record.Record{}, record.Record{Kind: record.Past, Tid: next(s), Yes: true})
}

// anyRecords are some that mostly can follow on one another.
func anyRecords(r *rand.Rand, s ledger.State) []record.Record {
	var l []record.Record
	for range r.IntN(4) {
		x := anyRecord(r, s)
		u, e := ledger.Apply(s, x)
		if e != api.OK && r.IntN(8) > 0 {
			continue
		}
		l = append(l, x)
		if e == api.OK && x.Kind != record.Base {
			s = u
		}
	}
	return l
}

// P9.1: in long orders, over disks of many sizes and nodes of all kinds; what isn't opened as what it is is left.
func TestLongOrders(t *testing.T) {
	r := chance()
	did := map[string]int{}
	for range 600 {
		nodes, cells := 1+r.IntN(3), 1+r.IntN(4)
		node := 1 + r.IntN(nodes)
		p := newPair(t, r.IntN(3000), node, nodes, cells)
		for range 60 {
			l, force, keep := anyRecords(r, p.m.state()), r.IntN(2) == 0, r.IntN(300)
			step := func() (string, bool) { return "log", p.log(force, l...) }
			switch r.IntN(24) {
			case 0:
				step = func() (string, bool) { return "renew", p.renew() }
			case 1:
				step = func() (string, bool) { return "again", p.again() }
			case 2:
				step = func() (string, bool) { return "open", p.open(1+r.IntN(3), nodes, cells+r.IntN(2)) && p.again() }
			case 3:
				step = func() (string, bool) { return "fuse", p.fuse(keep*3 - 50) }
			case 4, 5:
				step = func() (string, bool) { return "crash", p.crash(keep - 50) }
			case 6:
				step = func() (string, bool) { return "down", r.IntN(4) > 0 || p.goDown() }
			}
			if p.k.Over() {
				did["over"]++
			}
			name, ok := step()
			did[name]++
			if !ok || !p.same() {
				t.Fatalf("%s: the disk has %x, %d safe, the model %x, %d safe; state %+v, want %+v", name, p.d.Bytes(), p.d.Safe(), p.m.d.Bytes(), p.m.d.Safe(), p.k.State(), p.m.state())
			}
		}
	}
	for _, name := range []string{"log", "renew", "again", "open", "fuse", "crash", "down", "over"} {
		if did[name] < 300 {
			t.Errorf("%s was done %d times only", name, did[name])
		}
	}
}
