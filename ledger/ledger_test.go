package ledger

import (
	"math"
	"reflect"
	"slices"
	"testing"

	"remuda/api"
	"remuda/record"
)

// tid is a name of node 1's first incarnation.
func tid(seq int) api.Tid { return api.Tid{Node: 1, Epoch: 1, Seq: seq} }

// Records, in short.
func base(node, nodes, cells int) record.Record {
	return record.Record{Kind: record.Base, Node: node, Count: nodes, Num: cells}
}
func epoch(n int) record.Record { return record.Record{Kind: record.Epoch, Num: n} }
func cellIs(cell, status, hop, to, version, value int) record.Record {
	return record.Record{Kind: record.Cell, Cell: cell, Status: status, Hop: hop, Node: to, Version: version, Value: value}
}
func prepared(t api.Tid, nodes []int, l ...api.Item) record.Record {
	return record.Record{Kind: record.Prepared, Tid: t, Items: l, Nodes: nodes}
}
func done(t api.Tid, yes bool) record.Record {
	return record.Record{Kind: record.Done, Tid: t, Yes: yes}
}
func past(t api.Tid, yes bool) record.Record {
	return record.Record{Kind: record.Past, Tid: t, Yes: yes}
}
func commit(t api.Tid, nodes []int, l ...api.Item) record.Record {
	return record.Record{Kind: record.Commit, Tid: t, Items: l, Nodes: nodes}
}
func end(t api.Tid) record.Record { return record.Record{Kind: record.End, Tid: t} }
func out(cell, hop, to int) record.Record {
	return record.Record{Kind: record.Out, Cell: cell, Hop: hop, Node: to}
}
func in(cell, hop, version, value int) record.Record {
	return record.Record{Kind: record.In, Cell: cell, Hop: hop, Version: version, Value: value}
}
func gone(cell, hop int) record.Record {
	return record.Record{Kind: record.Gone, Cell: cell, Hop: hop}
}

func read(cell, version int) api.Item { return api.Item{Cell: cell, Version: version} }
func wrote(cell, version, value int) api.Item {
	return api.Item{Cell: cell, Version: version, Write: true, New: value}
}

// plain is a copy of a state that shares nothing with it, and in which each empty list is none.
func plain(s State) State {
	s.Places = append([]Place(nil), s.Places...)
	s.Decided = append([]Decided(nil), s.Decided...)
	var p []Prepared
	for _, x := range s.Prepared {
		p = append(p, Prepared{x.Tid, append([]api.Item(nil), x.Items...), append([]int(nil), x.Nodes...)})
	}
	var c []Commit
	for _, x := range s.Commits {
		c = append(c, Commit{x.Tid, append([]api.Item(nil), x.Items...), append([]int(nil), x.Nodes...), x.Over})
	}
	s.Prepared, s.Commits = p, c
	return s
}

func same(a, b State) bool { return reflect.DeepEqual(plain(a), plain(b)) }

func plainRecords(l []record.Record) []record.Record {
	var all []record.Record
	for _, r := range l {
		r.Items, r.Nodes = append([]api.Item(nil), r.Items...), append([]int(nil), r.Nodes...)
		all = append(all, r)
	}
	return all
}

func first(t *testing.T, node, nodes, cells int) State {
	t.Helper()
	s, e := First(node, nodes, cells)
	if e != api.OK {
		t.Fatal("First:", node, nodes, cells, e)
	}
	return s
}

// after is the state behind records, all of which can follow.
func after(t *testing.T, s State, l ...record.Record) State {
	t.Helper()
	was, records := plain(s), plainRecords(l)
	u, e := Apply(s, l...)
	if e != api.OK {
		t.Fatalf("%+v can't follow on %+v: %d", l, s, e)
	}
	if !same(s, was) || !reflect.DeepEqual(plainRecords(l), records) {
		t.Fatalf("Apply changed what it was handed: %+v, %+v", s, l)
	}
	return u
}

func checkState(t *testing.T, s, want State) {
	t.Helper()
	if !same(s, want) {
		t.Errorf("state %+v\nwant  %+v", s, want)
	}
}

// refused tells whether the last one of records can't follow, and why: the others can.
func refused(t *testing.T, s State, want api.Errno, l ...record.Record) {
	t.Helper()
	s = after(t, s, l[:len(l)-1]...)
	was := plain(s)
	u, e := Apply(s, l[len(l)-1])
	if e != want || !reflect.DeepEqual(u, State{}) {
		t.Errorf("%+v on %+v: %d and %+v; want %d", l[len(l)-1], s, e, u, want)
	}
	if !same(s, was) {
		t.Errorf("a record that is refused changed %+v to %+v", was, s)
	}
}

var notANode = []int{math.MinInt, -1, 0, 17, 1 << 32, math.MaxInt}

// P8.1: the first state, of all counts.
func TestFirst(t *testing.T) {
	for nodes := 1; nodes <= 16; nodes++ {
		for node := 1; node <= nodes; node++ {
			for cells := 1; cells <= 16; cells++ {
				want := State{Node: node, Nodes: nodes, Cells: cells, Places: make([]Place, cells)}
				for c := node - 1; c < cells; c += nodes {
					want.Places[c] = Place{Status: 1}
				}
				checkState(t, first(t, node, nodes, cells), want)
			}
		}
	}
	for _, n := range notANode {
		for _, l := range [][3]int{{n, 16, 16}, {1, n, 16}, {1, 1, n}, {n, n, 1}, {n, n, n}} {
			if s, e := First(l[0], l[1], l[2]); e != api.ErrArg || !reflect.DeepEqual(s, State{}) {
				t.Errorf("First%v: %+v and %d", l, s, e)
			}
		}
	}
	for nodes := 1; nodes < 16; nodes++ {
		if s, e := First(nodes+1, nodes, 1); e != api.ErrArg || !reflect.DeepEqual(s, State{}) {
			t.Errorf("node %d of %d: %+v and %d", nodes+1, nodes, s, e)
		}
	}
}

// P8.1: homes, also of cells and nodes that no cluster has.
func TestHome(t *testing.T) {
	for _, x := range []struct{ cell, nodes, want int }{
		{0, 1, 1}, {15, 1, 1}, {0, 2, 1}, {1, 2, 2}, {2, 2, 1}, {5, 3, 3}, {15, 16, 16}, {16, 16, 1}, {100, 17, 16},
		{0, 0, 0}, {3, 0, 0}, {3, -1, 0}, {3, math.MinInt, 0}, {-1, 3, 0}, {-3, 3, 0}, {math.MinInt, 3, 0}, {-1, -1, 0},
		{math.MaxInt, 1, 1}, {math.MaxInt, math.MaxInt, 1}, {math.MaxInt - 1, math.MaxInt, math.MaxInt}, {0, math.MaxInt, 1},
	} {
		if got := Home(x.cell, x.nodes); got != x.want {
			t.Errorf("Home(%d, %d): %d, want %d", x.cell, x.nodes, got, x.want)
		}
	}
}

// P8.1: the chapter's example.
func TestExample(t *testing.T) {
	s := first(t, 1, 2, 2)
	if !Owns(s, 0) || Owns(s, 1) {
		t.Errorf("the first state: %+v", s)
	}
	s = after(t, s, prepared(tid(1), []int{1}, wrote(0, 0, 7)))
	if !Locked(s, 0) {
		t.Error("not locked")
	}
	s = after(t, s, done(tid(1), true))
	if s.Places[0].Version != 1 || Locked(s, 0) {
		t.Errorf("behind Done: %+v", s)
	}
}

// P8.1: no records, and a Whole, leave a state as it is.
func TestNothing(t *testing.T) {
	s := after(t, first(t, 2, 3, 6), busy()...)
	checkState(t, after(t, s), s)
	checkState(t, after(t, s, record.Record{Kind: record.Whole}), s)
	checkState(t, after(t, State{}), State{})
	refused(t, s, api.ErrArg, record.Record{Kind: record.Whole, Num: 1})
}

// busy is records for node 2 of 3 with 6 cells, behind which it has something of each kind.
func busy() []record.Record {
	return []record.Record{
		epoch(4),
		prepared(tid(2), []int{2}, read(1, 0)), done(tid(2), true),
		past(tid(1), false),
		in(0, 1, 3, 30), out(0, 2, 3), gone(0, 2),
		in(3, 5, 6, 7), out(3, 6, 1),
		prepared(tid(9), []int{1, 2}, wrote(4, 0, 8)),
		prepared(tid(8), []int{2, 3}, read(1, 0)),
		commit(api.Tid{Node: 2, Epoch: 4, Seq: 2}, []int{2, 3}, read(1, 0)),
		commit(api.Tid{Node: 2, Epoch: 4, Seq: 1}, nil),
		end(api.Tid{Node: 2, Epoch: 4, Seq: 2}),
	}
}

func busyState() State {
	return State{
		Node: 2, Nodes: 3, Cells: 6, Epoch: 4,
		Places:   []Place{{Hop: 2}, {Status: 1}, {}, {Status: 2, Hop: 6, To: 1, Version: 6, Value: 7}, {Status: 1}, {}},
		Prepared: []Prepared{{tid(8), []api.Item{read(1, 0)}, []int{2, 3}}, {tid(9), []api.Item{wrote(4, 0, 8)}, []int{1, 2}}},
		Decided:  []Decided{{tid(1), false}, {tid(2), true}},
		Commits: []Commit{
			{Tid: api.Tid{Node: 2, Epoch: 4, Seq: 2}, Items: []api.Item{read(1, 0)}, Nodes: []int{2, 3}, Over: true},
			{Tid: api.Tid{Node: 2, Epoch: 4, Seq: 1}},
		},
	}
}

// P8.1: many records, one behind the other; the same, one a call.
func TestBusy(t *testing.T) {
	s := first(t, 2, 3, 6)
	checkState(t, after(t, s, busy()...), busyState())
	for _, r := range busy() {
		s = after(t, s, r)
	}
	checkState(t, s, busyState())
}

// P8.1: names stand in their order, whichever way they came; Commits as they came.
func TestOrder(t *testing.T) {
	names := []api.Tid{{Node: 1, Epoch: 1, Seq: 2}, {Node: 1, Epoch: 2, Seq: 1}, {Node: 1, Epoch: 2, Seq: 3}, {Node: 2, Epoch: 1, Seq: 1}, {Node: 3, Epoch: 1, Seq: 1}}
	for _, l := range orders(len(names)) {
		s, d := first(t, 1, 3, 15), first(t, 1, 3, 15)
		for _, i := range l {
			s = after(t, s, prepared(names[i], []int{1}, read(3*i, 0)))
			d = after(t, d, past(names[i], i%2 == 0))
		}
		for i, x := range names {
			if s.Prepared[i].Tid != x || s.Prepared[i].Items[0].Cell != 3*i || d.Decided[i] != (Decided{x, i%2 == 0}) {
				t.Errorf("in the order %v: %+v, %+v", l, s.Prepared, d.Decided)
			}
			if FindPrepared(s, x) != i || FindDecided(d, x) != i || FindDecided(s, x) != -1 || FindPrepared(d, x) != -1 {
				t.Errorf("%v isn't found", x)
			}
		}
		for _, i := range l {
			s = after(t, s, done(names[i], i%2 == 0))
		}
		if !slices.Equal(s.Decided, d.Decided) || len(s.Prepared) != 0 {
			t.Errorf("decided: %+v, want %+v", s.Decided, d.Decided)
		}
		c := first(t, 1, 3, 3)
		for _, i := range l {
			c = after(t, c, commit(tid(i+1), []int{i%3 + 1}))
		}
		for at, i := range l {
			if c.Commits[at].Tid != tid(i+1) || c.Commits[at].Nodes[0] != i%3+1 || FindCommit(c, tid(i+1)) != at {
				t.Errorf("in the order %v: %+v", l, c.Commits)
			}
		}
	}
}

// orders is all orders of the numbers below n.
func orders(n int) [][]int {
	if n == 0 {
		return [][]int{nil}
	}
	var all [][]int
	for _, l := range orders(n - 1) {
		for at := range n {
			all = append(all, slices.Insert(slices.Clone(l), at, n-1))
		}
	}
	return all
}

// P8.1: what is found, of which name, and what isn't.
func TestFind(t *testing.T) {
	s := after(t, first(t, 2, 3, 6), busy()...)
	own := func(n int) api.Tid { return api.Tid{Node: 2, Epoch: 4, Seq: n} }
	for _, x := range []struct {
		t                         api.Tid
		prepared, decided, commit int
	}{
		{tid(1), -1, 0, -1}, {tid(2), -1, 1, -1}, {tid(8), 0, -1, -1}, {tid(9), 1, -1, -1}, {tid(3), -1, -1, -1},
		{own(2), -1, -1, 0}, {own(1), -1, -1, 1}, {own(3), -1, -1, -1}, {api.Tid{}, -1, -1, -1},
		{api.Tid{Node: 2, Epoch: 1, Seq: 1}, -1, -1, -1}, {api.Tid{Node: 1, Epoch: 2, Seq: 1}, -1, -1, -1}, {api.Tid{Node: -1, Epoch: -1, Seq: -1}, -1, -1, -1},
	} {
		if p, d, c := FindPrepared(s, x.t), FindDecided(s, x.t), FindCommit(s, x.t); p != x.prepared || d != x.decided || c != x.commit {
			t.Errorf("%v: %d, %d, %d", x.t, p, d, c)
		}
		if p, d, c := FindPrepared(State{}, x.t), FindDecided(State{}, x.t), FindCommit(State{}, x.t); p != -1 || d != -1 || c != -1 {
			t.Errorf("%v of nothing: %d, %d, %d", x.t, p, d, c)
		}
	}
}

// P8.1: which cells are owned, and which are locked; of none neither.
func TestOwnsAndLocked(t *testing.T) {
	s := after(t, first(t, 2, 3, 6), busy()...)
	for c := -2; c < 20; c++ {
		if owns, locked := Owns(s, c), Locked(s, c); owns != (c == 1 || c == 4) || locked != (c == 1 || c == 4) {
			t.Errorf("cell %d: owned %v, locked %v", c, owns, locked)
		}
	}
	s = after(t, s, done(tid(8), true))
	if Locked(s, 1) || !Owns(s, 1) || !Locked(s, 4) {
		t.Errorf("behind Done: %+v", s)
	}
	for _, c := range []int{math.MinInt, -1, 0, 1, math.MaxInt} {
		if Owns(State{}, c) || Locked(State{}, c) {
			t.Errorf("cell %d of nothing", c)
		}
	}
}

// P8.1: a record that isn't right can't follow, also where another error would be told of it if it were.
func TestNotRight(t *testing.T) {
	s := after(t, first(t, 2, 3, 6), busy()...)
	for _, r := range []record.Record{
		{}, {Kind: -1}, {Kind: 13}, {Kind: 99}, {Kind: math.MaxInt},
		base(0, 1, 1), epoch(-1), cellIs(-1, 0, 0, 0, 0, 0), cellIs(1, 3, 0, 0, 0, 0), cellIs(1, 1, -1, 0, 0, 0),
		prepared(tid(9), []int{2}), prepared(api.Tid{}, []int{2}, read(5, 0)), prepared(tid(3), []int{2}, read(4, 0), read(1, 0)), prepared(tid(3), []int{2}, api.Item{Cell: 5, New: 1}),
		done(api.Tid{}, true), done(api.Tid{Node: 1}, false), past(api.Tid{Node: 17, Epoch: 1, Seq: 1}, true),
		commit(api.Tid{Node: 2}, nil), commit(api.Tid{Node: 2, Epoch: 4, Seq: 1}, []int{2, 1}), end(api.Tid{Node: 2, Epoch: 4}),
		out(0, 0, 1), out(-1, 1, 1), in(1, 0, 0, 0), in(1, 9, 1<<40+1, 0), gone(0, 0), gone(16, 1),
		{Kind: record.Epoch, Num: 1, Yes: true}, {Kind: record.Done, Tid: tid(1), Num: 1}, {Kind: record.In, Cell: 1, Hop: 9, Node: 1},
	} {
		refused(t, s, api.ErrArg, r)
	}
}

// P8.1: of a list the error of the first one that can't follow is told, and nothing else; those ahead of it count, those behind it don't.
func TestFirstError(t *testing.T) {
	s := first(t, 1, 2, 4)
	good, wrong, none, order := out(0, 1, 2), record.Record{Kind: 99}, gone(1, 1), epoch(1)
	for _, x := range []struct {
		e api.Errno
		l []record.Record
	}{
		{api.ErrOrder, []record.Record{order, order, wrong, none}},
		{api.ErrNone, []record.Record{none, wrong, order}},
		{api.ErrArg, []record.Record{order, wrong, order, none}},
		{api.ErrNone, []record.Record{good, good, wrong}},
		{api.ErrNone, []record.Record{good, gone(0, 1), gone(0, 1)}},
		{api.ErrArg, []record.Record{good, gone(0, 1), order, wrong}},
		{api.ErrArg, []record.Record{base(1, 1, 1), gone(1, 1)}},
		{api.ErrThere, []record.Record{past(tid(1), true), done(tid(1), false), base(1, 1, 1)}},
	} {
		was := plain(s)
		if u, e := Apply(s, x.l...); e != x.e || !reflect.DeepEqual(u, State{}) || !same(s, was) {
			t.Errorf("%+v: %d and %+v, of %+v", x.l, e, u, s)
		}
	}
	after(t, s, good, gone(0, 1), in(0, 2, 0, 0), order, epoch(2))
}

// P8.1: the records of states, in their order.
func TestRecords(t *testing.T) {
	b := busyState()
	for _, x := range []struct {
		s    State
		want []record.Record
	}{
		{first(t, 1, 1, 1), []record.Record{base(1, 1, 1), cellIs(0, 1, 0, 0, 0, 0)}},
		{first(t, 2, 2, 1), []record.Record{base(2, 2, 1)}},
		{after(t, State{}, base(3, 4, 5), epoch(1<<40)), []record.Record{base(3, 4, 5), epoch(1 << 40)}},
		{after(t, first(t, 2, 3, 6), busy()...), []record.Record{
			base(2, 3, 6), epoch(4), cellIs(0, 0, 2, 0, 0, 0), cellIs(1, 1, 0, 0, 0, 0), cellIs(3, 2, 6, 1, 6, 7), cellIs(4, 1, 0, 0, 0, 0),
			past(tid(1), false), past(tid(2), true),
			prepared(tid(8), []int{2, 3}, b.Prepared[0].Items...), prepared(tid(9), []int{1, 2}, b.Prepared[1].Items...),
			commit(b.Commits[0].Tid, []int{2, 3}, b.Commits[0].Items...), end(b.Commits[0].Tid), commit(b.Commits[1].Tid, nil),
		}},
		{after(t, first(t, 2, 2, 3), cellIs(1, 0, 0, 0, 0, 0), cellIs(0, 0, 0, 0, 3, 0), cellIs(2, 0, 0, 0, 0, -1)), []record.Record{base(2, 2, 3), cellIs(0, 0, 0, 0, 3, 0), cellIs(2, 0, 0, 0, 0, -1)}},
	} {
		if got := Records(x.s); !reflect.DeepEqual(plainRecords(got), plainRecords(x.want)) {
			t.Errorf("of %+v:\n%+v, want\n%+v", x.s, got, x.want)
		}
	}
}

// spoilItems and spoilNodes write into all that a list may hold.
func spoilItems(l []api.Item) {
	for i := range l[:cap(l)] {
		l[:cap(l)][i] = api.Item{Cell: -5, Version: -5, Value: -5}
	}
}

func spoilNodes(l []int) {
	for i := range l[:cap(l)] {
		l[:cap(l)][i] = -5
	}
}

// spoil writes into all that a state's lists may hold.
func spoil(s State) {
	for _, p := range s.Prepared {
		spoilItems(p.Items)
		spoilNodes(p.Nodes)
	}
	for _, c := range s.Commits {
		spoilItems(c.Items)
		spoilNodes(c.Nodes)
	}
	for i := range s.Places[:cap(s.Places)] {
		s.Places[:cap(s.Places)][i].Hop = -5
	}
	for i := range s.Prepared[:cap(s.Prepared)] {
		s.Prepared[:cap(s.Prepared)][i] = Prepared{}
	}
	for i := range s.Decided[:cap(s.Decided)] {
		s.Decided[:cap(s.Decided)][i].Tid.Seq = -5
	}
	for i := range s.Commits[:cap(s.Commits)] {
		s.Commits[:cap(s.Commits)][i] = Commit{}
	}
}

// P8.1: no memory is shared: not with what was handed in, not with an elder state, nor within an answer.
func TestNoSharedMemory(t *testing.T) {
	s := first(t, 2, 3, 6)
	other := first(t, 2, 3, 6)
	spoil(other)
	checkState(t, s, first(t, 2, 3, 6))
	l := busy()
	s = after(t, s, l...)
	for _, r := range l {
		spoilItems(r.Items)
		spoilNodes(r.Nodes)
	}
	checkState(t, s, busyState())
	for _, more := range [][]record.Record{nil, {{Kind: record.Whole}}, {past(tid(3), true)}, {prepared(tid(4), []int{2}, read(4, 0)), done(tid(4), true)}, {done(tid(9), true)}, {commit(api.Tid{Node: 2, Epoch: 9, Seq: 9}, nil)}, {base(1, 1, 1)}} {
		if u, e := Apply(s, more...); e == api.OK {
			spoil(u)
		}
		checkState(t, s, busyState())
	}
	for _, r := range Records(s) {
		spoilItems(r.Items)
		spoilNodes(r.Nodes)
	}
	checkState(t, s, busyState())
	r := commit(api.Tid{Node: 2, Epoch: 9, Seq: 1}, []int{1, 2}, read(1, 0), read(2, 0))
	again := r
	again.Tid.Seq = 2
	u := after(t, s, r, again)
	n := len(u.Commits)
	spoilItems(u.Commits[n-2].Items)
	spoilNodes(u.Commits[n-2].Nodes)
	if got := u.Commits[n-1]; !slices.Equal(got.Items, r.Items) || !slices.Equal(got.Nodes, r.Nodes) {
		t.Errorf("two lists of one answer are one: %+v", got)
	}
}

// A state that nobody made leads to no panic, whatever is asked of it or applied to it.
func TestAnyState(t *testing.T) {
	r := chance()
	for range 20000 {
		s := anyState(r)
		was := plain(s)
		x, cell := anyRecord(r, s), anyNum(r)
		if u, e := Apply(s, x, anyRecord(r, s)); e != api.OK && !reflect.DeepEqual(u, State{}) {
			t.Errorf("%+v: %d and %+v", x, e, u)
		}
		for _, c := range []int{cell, x.Cell, 0, 15} {
			Owns(s, c)
			Locked(s, c)
			Home(c, cell)
		}
		FindPrepared(s, x.Tid)
		FindDecided(s, x.Tid)
		FindCommit(s, x.Tid)
		Apply(first(t, 2, 3, 6), Records(s)...)
		if !same(s, was) {
			t.Errorf("changed: %+v, which was %+v", s, was)
		}
	}
}
