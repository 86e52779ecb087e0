package ledger

import (
	"math"
	"slices"
	"testing"

	"remuda/api"
	"remuda/record"
)

// P8.1: a Base begins anew, whatever was there, locked or not.
func TestBase(t *testing.T) {
	for _, s := range []State{{}, first(t, 1, 1, 1), after(t, first(t, 2, 3, 6), busy()...)} {
		checkState(t, after(t, s, base(2, 2, 3)), State{Node: 2, Nodes: 2, Cells: 3, Places: make([]Place, 3)})
		checkState(t, after(t, s, base(16, 16, 16)), State{Node: 16, Nodes: 16, Cells: 16, Places: make([]Place, 16)})
		refused(t, s, api.ErrArg, base(3, 2, 3))
		refused(t, s, api.ErrArg, base(1, 1, 0))
	}
}

// P8.1: an Epoch must be above.
func TestEpoch(t *testing.T) {
	s := first(t, 1, 1, 1)
	for _, n := range []int{1, 2, 1 << 40} {
		u := s
		u.Epoch = n
		checkState(t, after(t, s, epoch(n)), u)
		checkState(t, after(t, s, epoch(1), epoch(5), base(1, 1, 1), cellIs(0, 1, 0, 0, 0, 0), epoch(n)), u)
		refused(t, s, api.ErrOrder, epoch(n), epoch(n))
		refused(t, s, api.ErrOrder, epoch(n), epoch(1))
	}
	checkState(t, after(t, s, epoch(7), epoch(8)), after(t, s, epoch(8)))
	refused(t, s, api.ErrOrder, epoch(7), epoch(6))
	refused(t, s, api.ErrArg, epoch(0))
	refused(t, s, api.ErrArg, epoch(1<<40+1))
	refused(t, s, api.ErrArg, epoch(3), epoch(-1))
}

// P8.1: a Cell makes a place what it says, higher or lower.
func TestCell(t *testing.T) {
	s := first(t, 2, 3, 6)
	for _, cell := range []int{0, 1, 5} {
		for _, p := range []Place{{}, {Status: 1}, {1, 9, 0, 8, -7}, {0, 9, 0, 8, -7}, {2, 9, 3, 8, -7}, {2, 0, 1, 0, 0}, {2, 1 << 40, 2, 1 << 40, math.MinInt}} {
			want := plain(s)
			want.Places[cell] = p
			r := cellIs(cell, p.Status, p.Hop, p.To, p.Version, p.Value)
			checkState(t, after(t, s, r), want)
			checkState(t, after(t, s, cellIs(cell, 1, 50, 0, 51, 52), r), want)
			checkState(t, after(t, s, cellIs(cell, 2, 50, 1, 51, 52), r), want)
		}
	}
	refused(t, s, api.ErrArg, cellIs(6, 0, 0, 0, 0, 0))
	refused(t, s, api.ErrArg, cellIs(15, 1, 0, 0, 0, 0))
	refused(t, s, api.ErrArg, cellIs(0, 2, 0, 4, 0, 0))
	refused(t, s, api.ErrArg, cellIs(0, 2, 0, 16, 0, 0))
	refused(t, s, api.ErrArg, cellIs(0, 1, 0, 1, 0, 0))
	lock := prepared(tid(1), []int{2}, read(4, 0))
	refused(t, s, api.ErrLocked, lock, cellIs(4, 1, 0, 0, 0, 0))
	refused(t, s, api.ErrLocked, lock, cellIs(4, 2, 3, 3, 1, 1))
	refused(t, s, api.ErrArg, lock, cellIs(4, 2, 3, 4, 1, 1)) // told ahead of ErrLocked
	after(t, s, lock, cellIs(1, 0, 0, 0, 0, 0))
	after(t, s, lock, done(tid(1), false), cellIs(4, 0, 0, 0, 0, 0))
}

// P8.1: what is prepared stands by its name, with all that it has.
func TestPrepared(t *testing.T) {
	s := after(t, first(t, 2, 3, 6), cellIs(0, 1, 0, 0, 4, 40), cellIs(2, 1, 0, 0, 1<<40-1, 5))
	x := Prepared{tid(5), []api.Item{read(0, 4), wrote(1, 0, 9), {Cell: 2, Version: 1<<40 - 1, Value: 77}}, []int{1, 2, 3}}
	r := prepared(x.Tid, x.Nodes, x.Items...)
	want := plain(s)
	want.Prepared = []Prepared{x}
	u := after(t, s, r)
	checkState(t, u, want)
	for c, locked := range []bool{true, true, true, false, false, false} {
		if Locked(u, c) != locked {
			t.Errorf("cell %d: locked %v", c, !locked)
		}
	}
	after(t, s, r, prepared(api.Tid{Node: 3, Epoch: 1 << 40, Seq: 1 << 40}, []int{2}, wrote(4, 0, 1)))
	s = first(t, 1, 1, 16)
	var all []api.Item
	for c := range 16 {
		all = append(all, wrote(c, 0, c))
	}
	want = plain(s)
	want.Prepared = []Prepared{{tid(1), all, []int{1}}}
	checkState(t, after(t, s, prepared(tid(1), []int{1}, all...)), want)
}

// P8.1: why what is prepared can't follow, in the order in which that is asked.
func TestPreparedRefused(t *testing.T) {
	s := after(t, first(t, 2, 3, 6), prepared(tid(1), []int{2}, read(1, 0)), past(tid(2), false), past(tid(3), true), cellIs(0, 2, 1, 3, 0, 0), cellIs(3, 1, 0, 0, 6, 0))
	two := []int{2}
	for _, n := range []int{1, 2, 3} { // ErrThere, ahead of all
		refused(t, s, api.ErrThere, prepared(tid(n), two, read(4, 0)))
		refused(t, s, api.ErrThere, prepared(tid(n), []int{4}, read(6, 0)))
		refused(t, s, api.ErrThere, prepared(tid(n), two, read(1, 1), read(2, 0)))
		refused(t, s, api.ErrArg, prepared(tid(n), two)) // but what isn't right
	}
	for _, x := range []struct {
		t     api.Tid
		nodes []int
		items []api.Item
	}{ // ErrArg, ahead of the items' errors
		{tid(9), two, []api.Item{read(6, 0)}},
		{tid(9), two, []api.Item{read(1, 0), read(15, 0)}},
		{tid(9), two, []api.Item{read(2, 0), read(6, 0)}},
		{api.Tid{Node: 4, Epoch: 1, Seq: 1}, two, []api.Item{read(4, 0)}},
		{api.Tid{Node: 16, Epoch: 1, Seq: 1}, two, []api.Item{read(1, 0)}},
		{tid(9), []int{2, 4}, []api.Item{read(4, 0)}},
		{tid(9), []int{2, 3, 16}, []api.Item{read(2, 0)}},
		{tid(9), nil, []api.Item{read(4, 0)}},
		{tid(9), []int{1}, []api.Item{read(4, 0)}},
		{tid(9), []int{1, 3}, []api.Item{read(3, 0)}},
		{tid(9), []int{3, 2}, []api.Item{read(4, 0)}},
	} {
		refused(t, s, api.ErrArg, prepared(x.t, x.nodes, x.items...))
	}
	for _, x := range []struct {
		e api.Errno
		l []api.Item
	}{ // item by item: what is wrong with the first one that isn't well
		{api.ErrNone, []api.Item{read(2, 0)}},
		{api.ErrNone, []api.Item{read(0, 0)}}, // leaving
		{api.ErrNone, []api.Item{read(5, 9)}},
		{api.ErrLocked, []api.Item{read(1, 0)}},
		{api.ErrLocked, []api.Item{read(1, 9)}},
		{api.ErrVersion, []api.Item{read(3, 5)}},
		{api.ErrVersion, []api.Item{wrote(3, 7, 1)}},
		{api.ErrVersion, []api.Item{read(4, 1)}},
		{api.ErrNone, []api.Item{read(0, 0), read(1, 0)}},
		{api.ErrLocked, []api.Item{read(1, 0), read(2, 0)}},
		{api.ErrVersion, []api.Item{read(3, 0), read(5, 0)}},
		{api.ErrNone, []api.Item{read(3, 6), read(4, 0), read(5, 0)}},
		{api.ErrVersion, []api.Item{read(3, 6), read(4, 2), read(5, 0)}},
	} {
		refused(t, s, x.e, prepared(tid(9), two, x.l...))
	}
	after(t, s, prepared(tid(9), two, read(3, 6), read(4, 0)))
}

// P8.1: what was prepared is decided: what it wrote is there, or isn't.
func TestDone(t *testing.T) {
	s := after(t, first(t, 2, 3, 6), cellIs(0, 1, 7, 0, 3, 30), cellIs(2, 1, 8, 0, 1<<40-1, 5))
	r := prepared(tid(5), []int{2}, wrote(0, 3, 31), api.Item{Cell: 1, Value: 99}, wrote(2, 1<<40-1, 5), wrote(4, 0, 0))
	want := plain(s)
	want.Decided = []Decided{{tid(5), false}}
	checkState(t, after(t, s, r, done(tid(5), false)), want)
	want.Decided = []Decided{{tid(5), true}}
	want.Places = []Place{{1, 7, 0, 4, 31}, {Status: 1}, {1, 8, 0, 1 << 40, 5}, {}, {1, 0, 0, 1, 0}, {}}
	checkState(t, after(t, s, r, done(tid(5), true)), want)
	for _, yes := range []bool{false, true} { // others that are prepared stay
		u := after(t, first(t, 1, 1, 4), prepared(tid(1), []int{1}, wrote(1, 0, 5)), prepared(tid(2), []int{1}, wrote(2, 0, 6)), prepared(tid(3), []int{1}, wrote(3, 0, 7)))
		want = plain(u)
		want.Decided = []Decided{{tid(2), yes}}
		want.Prepared = slices.Delete(want.Prepared, 1, 2)
		if yes {
			want.Places[2] = Place{1, 0, 0, 1, 6}
		}
		u = after(t, u, done(tid(2), yes))
		checkState(t, u, want)
		if !Locked(u, 1) || Locked(u, 2) || !Locked(u, 3) {
			t.Errorf("locked: %+v", u)
		}
	}
}

// P8.1: a Done of what isn't prepared.
func TestDoneOfNone(t *testing.T) {
	s := after(t, first(t, 2, 3, 6), past(tid(2), false), past(tid(3), true), prepared(tid(4), []int{2}, read(1, 0)))
	far := api.Tid{Node: 4, Epoch: 1, Seq: 1}
	for _, n := range []int{2, 3} {
		refused(t, s, api.ErrThere, done(tid(n), false))
		refused(t, s, api.ErrThere, done(tid(n), true))
	}
	refused(t, s, api.ErrThere, done(tid(4), true), done(tid(4), true))
	refused(t, s, api.ErrThere, done(tid(1), false), done(tid(1), true))
	refused(t, s, api.ErrOrder, done(tid(1), true))
	refused(t, s, api.ErrOrder, done(far, true))
	refused(t, s, api.ErrArg, done(far, false))
	refused(t, s, api.ErrArg, done(api.Tid{Node: 16, Epoch: 1, Seq: 1}, false))
	want := plain(s)
	want.Decided = []Decided{{tid(1), false}, {tid(2), false}, {tid(3), true}}
	checkState(t, after(t, s, done(tid(1), false)), want)
	want.Decided = append(want.Decided[1:], Decided{api.Tid{Node: 3, Epoch: 1, Seq: 1}, false})
	checkState(t, after(t, s, done(api.Tid{Node: 3, Epoch: 1, Seq: 1}, false)), want)
}

// P8.1: a Past is decided either way.
func TestPast(t *testing.T) {
	s := after(t, first(t, 2, 3, 6), past(tid(2), false), prepared(tid(4), []int{2}, read(1, 0)))
	for _, yes := range []bool{false, true} {
		refused(t, s, api.ErrThere, past(tid(2), yes))
		refused(t, s, api.ErrThere, past(tid(4), yes))
		refused(t, s, api.ErrArg, past(api.Tid{Node: 4, Epoch: 1, Seq: 1}, yes))
		refused(t, s, api.ErrThere, past(tid(3), !yes), past(tid(3), yes))
		want := plain(s)
		want.Decided = append(want.Decided, Decided{api.Tid{Node: 3, Epoch: 1, Seq: 1}, yes})
		checkState(t, after(t, s, past(api.Tid{Node: 3, Epoch: 1, Seq: 1}, yes)), want)
	}
}

// P8.1: Commits and their Ends.
func TestCommitAndEnd(t *testing.T) {
	s := after(t, first(t, 2, 3, 6), prepared(tid(4), []int{2}, read(1, 0)))
	own := api.Tid{Node: 2, Epoch: 9, Seq: 1}
	for _, x := range []Commit{{Tid: own}, {Tid: own, Items: []api.Item{wrote(1, 5, 6), read(15, 3)}, Nodes: []int{1, 2, 3}}, {Tid: own, Nodes: []int{3}}, {Tid: own, Items: []api.Item{read(0, 0)}}} {
		want := plain(s)
		want.Commits = []Commit{x}
		r := commit(own, x.Nodes, x.Items...)
		checkState(t, after(t, s, r), want)
		want.Commits[0].Over = true
		checkState(t, after(t, s, r, end(own)), want)
		refused(t, s, api.ErrThere, r, r)
		refused(t, s, api.ErrThere, r, commit(own, nil))
		refused(t, s, api.ErrThere, r, end(own), r)
		refused(t, s, api.ErrThere, r, end(own), end(own))
		refused(t, s, api.ErrArg, r, commit(own, []int{4})) // told ahead of ErrThere
		refused(t, s, api.ErrNone, r, end(api.Tid{Node: 2, Epoch: 9, Seq: 2}))
	}
	for _, x := range []api.Tid{tid(1), {Node: 3, Epoch: 1, Seq: 1}, {Node: 16, Epoch: 1, Seq: 1}} {
		refused(t, s, api.ErrArg, commit(x, []int{2}))
	}
	refused(t, s, api.ErrArg, commit(own, []int{1, 4}))
	refused(t, s, api.ErrArg, commit(own, []int{16}))
	refused(t, s, api.ErrNone, end(own))
	refused(t, s, api.ErrNone, end(tid(4)))
	refused(t, s, api.ErrNone, past(own, true), end(own))
	// a Commit has nothing to do with what is prepared or decided under its name
	after(t, s, past(own, false), commit(own, nil), end(own))
	after(t, s, commit(own, []int{2}, read(4, 0)), prepared(own, []int{2}, read(4, 0)), done(own, true), end(own))
	u := after(t, s, commit(own, nil), commit(api.Tid{Node: 2, Epoch: 9, Seq: 2}, nil), commit(api.Tid{Node: 2, Epoch: 8, Seq: 1}, nil), end(api.Tid{Node: 2, Epoch: 9, Seq: 2}))
	if len(u.Commits) != 3 || u.Commits[0].Over || !u.Commits[1].Over || u.Commits[2].Over {
		t.Errorf("Commits: %+v", u.Commits)
	}
}

// P8.1: a cell that goes out.
func TestOut(t *testing.T) {
	s := after(t, first(t, 2, 3, 6), cellIs(1, 1, 5, 0, 8, 9), cellIs(3, 2, 5, 1, 0, 0), prepared(tid(1), []int{2}, read(4, 0)), cellIs(5, 1, 1<<40, 0, 0, 0))
	for _, to := range []int{1, 3} {
		want := plain(s)
		want.Places[1] = Place{2, 6, to, 8, 9}
		checkState(t, after(t, s, out(1, 6, to)), want)
	}
	for _, cell := range []int{0, 1, 3, 4, 6, 15} { // ErrArg, ahead of all
		refused(t, s, api.ErrArg, out(cell, 9, 2))
		refused(t, s, api.ErrArg, out(cell, 9, 4))
		refused(t, s, api.ErrArg, out(cell, 9, 16))
	}
	refused(t, s, api.ErrArg, out(6, 1, 1))
	refused(t, s, api.ErrArg, out(1, 0, 1))
	refused(t, s, api.ErrNone, out(0, 1, 1))
	refused(t, s, api.ErrNone, out(3, 6, 1))
	refused(t, s, api.ErrNone, out(3, 9, 1))
	refused(t, s, api.ErrNone, out(1, 6, 1), out(1, 7, 1))
	refused(t, s, api.ErrLocked, out(4, 1, 1))
	refused(t, s, api.ErrLocked, out(4, 9, 1))
	for _, hop := range []int{1, 4, 5, 7, 1 << 40} {
		refused(t, s, api.ErrOrder, out(1, hop, 1))
	}
	refused(t, s, api.ErrOrder, out(5, 1<<40, 1))
	refused(t, s, api.ErrArg, out(5, 1<<40+1, 1))
}

// P8.1: a cell that comes in.
func TestIn(t *testing.T) {
	s := after(t, first(t, 2, 3, 6), cellIs(0, 0, 5, 0, 8, 9), cellIs(3, 2, 5, 1, 8, 9), prepared(tid(1), []int{2}, read(4, 0)))
	for _, cell := range []int{0, 3} {
		for _, p := range []Place{{1, 6, 0, 0, 0}, {1, 7, 0, 9, -1}, {1, 1 << 40, 0, 1 << 40, math.MaxInt}} {
			want := plain(s)
			want.Places[cell] = p
			checkState(t, after(t, s, in(cell, p.Hop, p.Version, p.Value)), want)
		}
		for _, hop := range []int{1, 4, 5} {
			refused(t, s, api.ErrOrder, in(cell, hop, 8, 9))
		}
	}
	after(t, s, in(2, 1, 0, 0))
	refused(t, s, api.ErrArg, in(2, 0, 0, 0))
	refused(t, s, api.ErrArg, in(6, 1, 0, 0))
	refused(t, s, api.ErrArg, in(15, 1, 0, 0))
	for _, hop := range []int{1, 9} { // ErrThere, ahead of ErrOrder
		refused(t, s, api.ErrThere, in(1, hop, 0, 0))
		refused(t, s, api.ErrThere, in(4, hop, 0, 0))
		refused(t, s, api.ErrThere, in(2, 5, 0, 0), in(2, hop, 0, 0))
	}
}

// P8.1: a cell that is gone.
func TestGone(t *testing.T) {
	s := after(t, first(t, 2, 3, 6), cellIs(0, 0, 5, 0, 8, 9), cellIs(3, 2, 5, 1, 8, 9), cellIs(1, 1, 5, 0, 8, 9))
	want := plain(s)
	want.Places[3] = Place{Hop: 5}
	checkState(t, after(t, s, gone(3, 5)), want)
	refused(t, s, api.ErrArg, gone(3, 0))
	refused(t, s, api.ErrArg, gone(6, 5))
	refused(t, s, api.ErrArg, gone(15, 5))
	for _, hop := range []int{1, 5, 6} { // ErrNone, ahead of ErrOrder
		refused(t, s, api.ErrNone, gone(0, hop))
		refused(t, s, api.ErrNone, gone(1, hop))
		refused(t, s, api.ErrNone, gone(2, hop))
		refused(t, s, api.ErrNone, gone(3, 5), gone(3, hop))
	}
	for _, hop := range []int{1, 4, 6, 1 << 40} {
		refused(t, s, api.ErrOrder, gone(3, hop))
	}
	after(t, s, gone(3, 5), in(3, 6, 1, 1), out(3, 7, 1), gone(3, 7))
}

// full is a state that has as many Decided that there is room for n more.
func full(t *testing.T, n int, l ...record.Record) State {
	t.Helper()
	s := after(t, first(t, 1, 1, 16), l...)
	var more []record.Record
	for i := range api.MaxTable - n - len(s.Prepared) - len(s.Decided) {
		more = append(more, past(tid(1000+i), i%2 == 0))
	}
	s = after(t, s, more...)
	if len(s.Prepared)+len(s.Decided) != 512-n {
		t.Fatal(len(s.Prepared), len(s.Decided))
	}
	return s
}

// P8.1: there is room for 512 that are prepared or decided, and no more; what is prepared can be decided all the same.
func TestFull(t *testing.T) {
	one := []int{1}
	lock := prepared(tid(1), one, wrote(0, 0, 5))
	for _, r := range []record.Record{past(tid(9), true), past(tid(9), false), done(tid(9), false), prepared(tid(9), one, read(1, 0))} {
		after(t, full(t, 1, lock), r)
		after(t, full(t, 1), r)
		refused(t, full(t, 1), api.ErrFull, past(tid(2), false), r)
		refused(t, full(t, 1), api.ErrFull, prepared(tid(2), one, read(2, 0)), r)
		refused(t, full(t, 0), api.ErrFull, r)
		refused(t, full(t, 0, lock), api.ErrFull, r)
		refused(t, full(t, 0, lock), api.ErrFull, done(tid(1), true), r)
	}
	s := full(t, 0, lock)
	for _, yes := range []bool{false, true} {
		u := after(t, s, done(tid(1), yes))
		if len(u.Decided) != 512 || len(u.Prepared) != 0 || u.Decided[0] != (Decided{tid(1), yes}) {
			t.Errorf("Done, %v: %d decided, %d prepared", yes, len(u.Decided), len(u.Prepared))
		}
	}
	far := api.Tid{Node: 2, Epoch: 1, Seq: 1} // the other errors are told ahead of ErrFull
	for _, x := range []struct {
		e api.Errno
		r record.Record
	}{
		{api.ErrThere, past(tid(1), true)}, {api.ErrThere, past(tid(1000), true)}, {api.ErrArg, past(far, true)},
		{api.ErrThere, done(tid(1000), true)}, {api.ErrOrder, done(tid(9), true)}, {api.ErrArg, done(far, false)},
		{api.ErrThere, prepared(tid(1), one, read(1, 0))}, {api.ErrArg, prepared(tid(9), nil, read(1, 0))}, {api.ErrArg, prepared(far, one, read(1, 0))},
		{api.ErrLocked, prepared(tid(9), one, read(0, 0))}, {api.ErrVersion, prepared(tid(9), one, read(1, 1))}, {api.ErrNone, prepared(tid(9), one, read(2, 0))},
	} {
		refused(t, s, x.e, cellIs(2, 0, 0, 0, 0, 0), x.r)
	}
	after(t, s, commit(tid(9), one), end(tid(9)), epoch(1), cellIs(2, 0, 5, 0, 0, 0), in(2, 6, 0, 0))
}

// P8.1: there may be 512 Commits, over or not, whatever else there is.
func TestFullCommits(t *testing.T) {
	s := first(t, 1, 1, 1)
	var l []record.Record
	for i := range 512 {
		l = append(l, commit(tid(1000-i), []int{1}, wrote(0, i, i)))
		if i%3 == 0 {
			l = append(l, end(tid(1000-i)))
		}
	}
	s = after(t, s, l...)
	if len(s.Commits) != 512 || s.Commits[511].Tid != tid(489) {
		t.Fatalf("%d Commits", len(s.Commits))
	}
	refused(t, s, api.ErrFull, commit(tid(1), nil))
	refused(t, s, api.ErrThere, commit(tid(1000), nil))
	refused(t, s, api.ErrArg, commit(api.Tid{Node: 2, Epoch: 1, Seq: 1}, nil))
	refused(t, s, api.ErrArg, commit(tid(1), []int{2}))
	refused(t, s, api.ErrFull, end(tid(999)), commit(tid(1), nil))
	after(t, s, end(tid(999)), prepared(tid(1), []int{1}, read(0, 0)), done(tid(1), true), past(tid(2), true))
}
