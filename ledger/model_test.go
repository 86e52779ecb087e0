package ledger

import (
	"maps"
	"math"
	"math/rand/v2"
	"slices"
	"testing"

	"remuda/api"
	"remuda/record"
)

// A model of the chapter: what is known of names stands in maps, and why a record can't follow is a list of all reasons there may be, of which the first one counts.
type model struct {
	node, nodes, cells, epoch int
	places                    map[int]Place
	prepared                  map[api.Tid]Prepared
	decided                   map[api.Tid]bool
	commits                   []Commit
}

type reason struct {
	holds bool
	e     api.Errno
}

func newModel(node, nodes, cells int) *model {
	m := &model{node: node, nodes: nodes, cells: cells, places: map[int]Place{}, prepared: map[api.Tid]Prepared{}, decided: map[api.Tid]bool{}}
	for c := range cells {
		m.places[c] = Place{}
	}
	return m
}

func firstModel(node, nodes, cells int) *model {
	m := newModel(node, nodes, cells)
	for c := node - 1; c < cells; c += nodes {
		m.places[c] = Place{Status: 1}
	}
	return m
}

func (m *model) copied() *model {
	c := *m
	c.places, c.prepared, c.decided, c.commits = maps.Clone(m.places), maps.Clone(m.prepared), maps.Clone(m.decided), slices.Clone(m.commits)
	return &c
}

func names[V any](m map[api.Tid]V) []api.Tid {
	l := slices.Collect(maps.Keys(m))
	slices.SortFunc(l, func(a, b api.Tid) int {
		return slices.Compare([]int{a.Node, a.Epoch, a.Seq}, []int{b.Node, b.Epoch, b.Seq})
	})
	return l
}

func (m *model) state() State {
	s := State{Node: m.node, Nodes: m.nodes, Cells: m.cells, Epoch: m.epoch, Commits: m.commits}
	for c := range m.cells {
		s.Places = append(s.Places, m.places[c])
	}
	for _, t := range names(m.prepared) {
		s.Prepared = append(s.Prepared, m.prepared[t])
	}
	for _, t := range names(m.decided) {
		s.Decided = append(s.Decided, Decided{t, m.decided[t]})
	}
	return s
}

func (m *model) locked(cell int) bool {
	for _, p := range m.prepared {
		for _, x := range p.Items {
			if x.Cell == cell {
				return true
			}
		}
	}
	return false
}

func (m *model) commitAt(t api.Tid) int {
	for i, c := range m.commits {
		if c.Tid == t {
			return i
		}
	}
	return -1
}

func (m *model) reasons(r record.Record) []reason {
	_, isPrepared := m.prepared[r.Tid]
	_, isDecided := m.decided[r.Tid]
	at := m.commitAt(r.Tid)
	p := m.places[r.Cell]
	farNode := slices.Max(append(r.Nodes, 0)) > m.nodes
	full := reason{len(m.prepared)+len(m.decided) >= 512, api.ErrFull}
	l := []reason{{!record.Right(r), api.ErrArg}}
	switch r.Kind {
	case 2:
		return append(l, reason{r.Num <= m.epoch, api.ErrOrder})
	case 3:
		return append(l, reason{r.Cell >= m.cells, api.ErrArg}, reason{r.Node > m.nodes, api.ErrArg}, reason{m.locked(r.Cell), api.ErrLocked})
	case 4:
		l = append(l, reason{isPrepared || isDecided, api.ErrThere}, reason{farNode || r.Tid.Node > m.nodes || !slices.Contains(r.Nodes, m.node), api.ErrArg})
		for _, x := range r.Items {
			l = append(l, reason{x.Cell >= m.cells, api.ErrArg})
		}
		for _, x := range r.Items {
			p := m.places[x.Cell]
			l = append(l, reason{p.Status != 1, api.ErrNone}, reason{m.locked(x.Cell), api.ErrLocked}, reason{p.Version != x.Version, api.ErrVersion})
		}
		return append(l, full)
	case 5:
		return append(l, reason{r.Tid.Node != m.node || farNode, api.ErrArg}, reason{at >= 0, api.ErrThere}, reason{len(m.commits) >= 512, api.ErrFull})
	case 6:
		if isPrepared {
			return l
		}
		return append(l, reason{isDecided, api.ErrThere}, reason{r.Yes, api.ErrOrder}, reason{r.Tid.Node > m.nodes, api.ErrArg}, full)
	case 7:
		return append(l, reason{at < 0, api.ErrNone}, reason{at >= 0 && m.commits[max(at, 0)].Over, api.ErrThere})
	case 8:
		return append(l, reason{r.Cell >= m.cells || r.Node == m.node || r.Node > m.nodes, api.ErrArg}, reason{p.Status != 1, api.ErrNone}, reason{m.locked(r.Cell), api.ErrLocked}, reason{r.Hop-1 != p.Hop, api.ErrOrder})
	case 9:
		return append(l, reason{r.Cell >= m.cells, api.ErrArg}, reason{p.Status == 1, api.ErrThere}, reason{p.Hop >= r.Hop, api.ErrOrder})
	case 10:
		return append(l, reason{r.Cell >= m.cells, api.ErrArg}, reason{p.Status != 2, api.ErrNone}, reason{p.Hop != r.Hop, api.ErrOrder})
	case 11:
		return append(l, reason{isPrepared || isDecided, api.ErrThere}, reason{r.Tid.Node > m.nodes, api.ErrArg}, full)
	}
	return l
}

// follow is why a record can't follow on the model; if it can, the model is behind it.
func (m *model) follow(r record.Record) api.Errno {
	for _, x := range m.reasons(r) {
		if x.holds {
			return x.e
		}
	}
	p := m.places[r.Cell]
	switch r.Kind {
	case 1:
		*m = *newModel(r.Node, r.Count, r.Num)
	case 2:
		m.epoch = r.Num
	case 3:
		m.places[r.Cell] = Place{r.Status, r.Hop, r.Node, r.Version, r.Value}
	case 4:
		m.prepared[r.Tid] = Prepared{r.Tid, r.Items, r.Nodes}
	case 5:
		m.commits = append(m.commits, Commit{Tid: r.Tid, Items: r.Items, Nodes: r.Nodes})
	case 6, 11:
		for _, x := range m.prepared[r.Tid].Items {
			if p := m.places[x.Cell]; r.Yes && x.Write {
				m.places[x.Cell] = Place{1, p.Hop, 0, p.Version + 1, x.New}
			}
		}
		delete(m.prepared, r.Tid)
		m.decided[r.Tid] = r.Yes
	case 7:
		m.commits[m.commitAt(r.Tid)].Over = true
	case 8:
		m.places[r.Cell] = Place{2, r.Hop, r.Node, p.Version, p.Value}
	case 9:
		m.places[r.Cell] = Place{1, r.Hop, 0, r.Version, r.Value}
	case 10:
		m.places[r.Cell] = Place{Hop: r.Hop}
	}
	return api.OK
}

// step applies a record to both, the state and the model (which is left as it was), and holds them against one another.
func step(t *testing.T, s State, m *model, r record.Record) (State, *model, bool) {
	t.Helper()
	was := plain(s)
	u, e := Apply(s, r)
	n := m.copied()
	if want := n.follow(r); e != want {
		t.Fatalf("%+v on %+v: %d, want %d", r, s, e, want)
	}
	if !same(s, was) {
		t.Fatalf("%+v changed %+v to %+v", r, was, s)
	}
	if e != api.OK {
		return s, m, false
	}
	if !same(u, n.state()) {
		t.Fatalf("%+v on %+v: %+v, want %+v", r, s, u, n.state())
	}
	checkKept(t, s, u, r)
	return u, n, true
}

// checkKept is P8.3, of a state and the one behind a record: what is decided stays so, what is locked stays till its transaction is decided, and nothing falls but by the records that set it anew (a Base and a Cell; an In and a Gone as to the version).
func checkKept(t *testing.T, s, u State, r record.Record) {
	t.Helper()
	if r.Kind == record.Base {
		return
	}
	for _, d := range s.Decided {
		if at := FindDecided(u, d.Tid); at < 0 || u.Decided[at] != d {
			t.Fatalf("%+v on %+v: %+v isn't any more", r, s, d)
		}
	}
	for _, p := range s.Prepared {
		if FindPrepared(u, p.Tid) < 0 {
			if r.Kind != record.Done || r.Tid != p.Tid || FindDecided(u, p.Tid) < 0 {
				t.Fatalf("%+v on %+v: %+v isn't any more", r, s, p)
			}
			continue
		}
		for _, x := range p.Items {
			if !Owns(u, x.Cell) || !Locked(u, x.Cell) || u.Places[x.Cell] != s.Places[x.Cell] || u.Places[x.Cell].Version != x.Version {
				t.Fatalf("%+v on %+v: the locked cell %d is %+v", r, s, x.Cell, u.Places[x.Cell])
			}
		}
	}
	for c := range s.Places {
		if r.Kind != record.Cell && u.Places[c].Hop < s.Places[c].Hop {
			t.Fatalf("%+v on %+v: the hop of %d falls", r, s, c)
		}
		if sets := r.Kind == record.Cell || r.Kind == record.In || r.Kind == record.Gone; !sets && u.Places[c].Version < s.Places[c].Version {
			t.Fatalf("%+v on %+v: the version of %d falls", r, s, c)
		}
	}
}

// checkAgain is P8.2, of a state and others to which its records are applied.
func checkAgain(t *testing.T, s State, others ...State) {
	t.Helper()
	for _, o := range append(others, s, State{}) {
		was := plain(s)
		u, e := Apply(o, Records(s)...)
		if e != api.OK || !same(u, s) || !same(s, was) {
			t.Fatalf("Records of %+v, on %+v: %d and %+v", s, o, e, u)
		}
	}
}

// few is records of all kinds, for node 1 of 2 with 2 cells, that have to do with one another.
func few() []record.Record {
	own := api.Tid{Node: 1, Epoch: 1, Seq: 1}
	return []record.Record{
		base(1, 2, 2), base(2, 2, 2), {Kind: record.Whole}, {Kind: 99},
		epoch(1), epoch(2),
		cellIs(0, 1, 1, 0, 1, 5), cellIs(1, 1, 0, 0, 0, 0), cellIs(1, 2, 1, 2, 0, 0), cellIs(0, 0, 0, 0, 0, 0), cellIs(2, 0, 0, 0, 0, 0), cellIs(0, 2, 0, 3, 0, 0),
		prepared(tid(1), []int{1}, wrote(0, 0, 5)), prepared(tid(1), []int{1, 2}, read(0, 1)), prepared(tid(2), []int{1}, read(0, 0), wrote(1, 0, 6)),
		prepared(tid(2), []int{2}, read(0, 0)), prepared(tid(2), []int{1}, read(2, 0)), prepared(api.Tid{Node: 2, Epoch: 1, Seq: 1}, []int{1}, wrote(1, 0, 7)),
		done(tid(1), true), done(tid(1), false), done(tid(2), true), done(tid(2), false),
		past(tid(1), true), past(tid(2), false), past(api.Tid{Node: 3, Epoch: 1, Seq: 1}, false),
		commit(own, []int{1}, wrote(0, 0, 5)), commit(api.Tid{Node: 2, Epoch: 1, Seq: 1}, nil), commit(api.Tid{Node: 1, Epoch: 1, Seq: 2}, []int{3}),
		end(own), end(tid(2)),
		out(0, 1, 2), out(0, 2, 2), out(1, 1, 2), out(0, 1, 1), out(0, 1, 3),
		in(0, 1, 1, 1), in(0, 2, 0, 2), in(1, 1, 3, 3), in(2, 1, 0, 0),
		gone(0, 1), gone(0, 2), gone(1, 1),
	}
}

// P8.1, P8.2, P8.3: all orders of up to four records.
func TestAllOrders(t *testing.T) {
	var all func(s State, m *model, more int)
	seen := 0
	all = func(s State, m *model, more int) {
		seen++
		checkAgain(t, s)
		for _, r := range few() {
			if u, n, ok := step(t, s, m, r); ok && more > 1 {
				all(u, n, more-1)
			}
		}
	}
	all(first(t, 1, 2, 2), firstModel(1, 2, 2), 4)
	if seen < 3000 {
		t.Error("few states were seen:", seen)
	}
}

func chance() *rand.Rand { return rand.New(rand.NewPCG(1, 2)) }

func pick[T any](r *rand.Rand, l ...T) T { return l[r.IntN(len(l))] }

// anyNum is mostly a small number.
func anyNum(r *rand.Rand) int {
	if r.IntN(20) > 0 {
		return r.IntN(5)
	}
	return pick(r, math.MinInt, -1, 15, 16, 17, api.MaxNum-1, api.MaxNum, api.MaxNum+1, math.MaxInt, int(r.Uint64()))
}

// anyTid is one of a state's names, or another one.
func anyTid(r *rand.Rand, s State) api.Tid {
	l := []api.Tid{{Node: 1 + r.IntN(4), Epoch: 1 + r.IntN(2), Seq: 1 + r.IntN(4)}, {Node: s.Node, Epoch: 1 + r.IntN(2), Seq: 1 + r.IntN(4)}}
	if n := len(s.Prepared); n > 0 {
		l = append(l, s.Prepared[r.IntN(n)].Tid, s.Prepared[r.IntN(n)].Tid)
	}
	if n := len(s.Decided); n > 0 {
		l = append(l, s.Decided[r.IntN(n)].Tid)
	}
	if n := len(s.Commits); n > 0 {
		l = append(l, s.Commits[r.IntN(n)].Tid)
	}
	if r.IntN(30) == 0 {
		return api.Tid{Node: anyNum(r), Epoch: anyNum(r), Seq: anyNum(r)}
	}
	return pick(r, l...)
}

// anyItems mostly have the versions that a state's cells have.
func anyItems(r *rand.Rand, s State) []api.Item {
	var l []api.Item
	for c := range min(16, len(s.Places)+r.IntN(2)) {
		if r.IntN(4) > 0 {
			continue
		}
		x := api.Item{Cell: c, Version: anyNum(r), Value: anyNum(r), Write: r.IntN(2) == 0}
		if c < len(s.Places) && r.IntN(8) > 0 {
			x.Version = s.Places[c].Version
		}
		if x.Write {
			x.New = anyNum(r)
		}
		l = append(l, x)
	}
	return l
}

func anyNodes(r *rand.Rand, s State) []int {
	var l []int
	for n := 1; n <= 4; n++ {
		if r.IntN(3) == 0 || n == s.Node && r.IntN(8) > 0 {
			l = append(l, n)
		}
	}
	return l
}

// anyRecord is one that mostly is right, and often can follow on a state.
func anyRecord(r *rand.Rand, s State) record.Record {
	cell := anyNum(r)
	var p Place
	if s.has(cell) {
		p = s.Places[cell]
	}
	hop := pick(r, p.Hop, p.Hop+1, p.Hop+1, p.Hop+2, anyNum(r))
	switch 1 + r.IntN(40) {
	case record.Base:
		return base(anyNum(r), anyNum(r), anyNum(r))
	case record.Epoch:
		return epoch(s.Epoch + r.IntN(3))
	case record.Cell:
		if status := r.IntN(3); status < 2 {
			return cellIs(cell, status, anyNum(r), 0, anyNum(r), anyNum(r))
		}
		return cellIs(cell, 2, anyNum(r), anyNum(r), anyNum(r), anyNum(r))
	case record.Commit, 13, 14:
		return commit(anyTid(r, s), anyNodes(r, s), anyItems(r, s)...)
	case record.Done, 15, 16, 17, 18:
		return done(anyTid(r, s), r.IntN(2) == 0)
	case record.End, 19:
		return end(anyTid(r, s))
	case record.Out, 20, 21, 22:
		return out(cell, pick(r, hop, p.Hop+1), anyNum(r))
	case record.In, 23, 24:
		return in(cell, hop, anyNum(r), anyNum(r))
	case record.Gone, 25, 26, 27:
		return gone(cell, pick(r, hop, p.Hop))
	case record.Past, 28:
		return past(anyTid(r, s), r.IntN(2) == 0)
	case record.Whole:
		return record.Record{Kind: record.Whole}
	case 29:
		return record.Record{Kind: anyNum(r), Cell: anyNum(r), Num: anyNum(r)}
	}
	return prepared(anyTid(r, s), anyNodes(r, s), anyItems(r, s)...)
}

// anyState is one that nobody made: nothing in it need be right.
func anyState(r *rand.Rand) State {
	s := State{Node: anyNum(r), Nodes: anyNum(r), Cells: anyNum(r), Epoch: anyNum(r)}
	for range r.IntN(4) {
		s.Places = append(s.Places, Place{anyNum(r), anyNum(r), anyNum(r), anyNum(r), anyNum(r)})
	}
	wide := State{Node: 1, Places: make([]Place, 16)}
	for range r.IntN(4) {
		s.Prepared = append(s.Prepared, Prepared{anyTid(r, wide), anyItems(r, wide), anyNodes(r, s)})
		s.Decided = append(s.Decided, Decided{anyTid(r, wide), r.IntN(2) == 0})
		s.Commits = append(s.Commits, Commit{anyTid(r, wide), anyItems(r, wide), anyNodes(r, s), r.IntN(2) == 0})
	}
	for range r.IntN(3) {
		s.Prepared = append(s.Prepared, Prepared{Tid: anyTid(r, s), Items: []api.Item{{Cell: anyNum(r), Write: true}}})
	}
	return s
}

// P8.1, P8.2, P8.3: long runs of any records.
func TestAnyRuns(t *testing.T) {
	r := chance()
	did := map[int]int{}
	for range 400 {
		nodes, cells := 1+r.IntN(4), 1+r.IntN(7)
		node := 1 + r.IntN(nodes)
		s, m := first(t, node, nodes, cells), firstModel(node, nodes, cells)
		elder := s
		for i := range 150 {
			x := anyRecord(r, s)
			ok := false
			if s, m, ok = step(t, s, m, x); ok {
				did[x.Kind]++
			}
			if i%10 == 0 {
				checkAgain(t, s, elder, anyState(r))
				elder = s
			}
		}
	}
	for kind := record.Base; kind <= record.Whole; kind++ {
		if did[kind] < 50 {
			t.Errorf("few records of the kind %d could follow: %d", kind, did[kind])
		}
	}
}

// P8.2: tables that are full, too.
func TestAgainFull(t *testing.T) {
	s := full(t, 0, epoch(3), prepared(tid(1), []int{1}, wrote(0, 0, 5)), prepared(tid(4000), []int{1}, wrote(3, 0, 5), read(4, 0)))
	var l []record.Record
	for i := range 512 {
		l = append(l, commit(tid(1+(i*5)%512), []int{1}, wrote(i%16, i, i)))
		if i%2 == 0 {
			l = append(l, end(l[len(l)-1].Tid))
		}
	}
	s = after(t, s, l...)
	checkAgain(t, s, first(t, 2, 2, 2))
	if got := len(Records(s)); got != 2+16+512+512+256 {
		t.Errorf("%d records", got)
	}
}
