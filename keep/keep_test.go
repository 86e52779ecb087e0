package keep

import (
	"math"
	"reflect"
	"slices"
	"testing"

	"remuda/api"
	"remuda/disk"
	"remuda/journal"
	"remuda/ledger"
	"remuda/record"
)

// own is a name of node 1's first incarnation.
func own(seq int) api.Tid { return api.Tid{Node: 1, Epoch: 1, Seq: seq} }

// Records, in short, and how many bytes they have with their frames.
func base(node, nodes, cells int) record.Record {
	return record.Record{Kind: record.Base, Node: node, Count: nodes, Num: cells}
}
func epoch(n int) record.Record { return record.Record{Kind: record.Epoch, Num: n} }
func wrote(t api.Tid, cell, version, value int) record.Record {
	return record.Record{Kind: record.Prepared, Tid: t, Items: []api.Item{{Cell: cell, Version: version, Write: true, New: value}}, Nodes: []int{1}}
}
func done(t api.Tid, yes bool) record.Record {
	return record.Record{Kind: record.Done, Tid: t, Yes: yes}
}
func cellIs(cell, version, value int) record.Record {
	return record.Record{Kind: record.Cell, Cell: cell, Status: 1, Version: version, Value: value}
}

var whole = record.Record{Kind: record.Whole}

const (
	epochBytes = 6 + 1 + 8
	baseBytes  = 6 + 1 + 24
	cellBytes  = 6 + 1 + 48
	wholeBytes = 6 + 1
)

// renewed is how many bytes a renewed journal has of one node with one cell, and an epoch.
const renewed = baseBytes + epochBytes + cellBytes + wholeBytes

// plain is a copy of a state that shares nothing with it, and in which each empty list is none.
func plain(s ledger.State) ledger.State {
	s.Places = append([]ledger.Place(nil), s.Places...)
	s.Decided = append([]ledger.Decided(nil), s.Decided...)
	var p []ledger.Prepared
	for _, x := range s.Prepared {
		p = append(p, ledger.Prepared{Tid: x.Tid, Items: append([]api.Item(nil), x.Items...), Nodes: append([]int(nil), x.Nodes...)})
	}
	var c []ledger.Commit
	for _, x := range s.Commits {
		c = append(c, ledger.Commit{Tid: x.Tid, Items: append([]api.Item(nil), x.Items...), Nodes: append([]int(nil), x.Nodes...), Over: x.Over})
	}
	s.Prepared, s.Commits = p, c
	return s
}

// same tells whether two states are; an empty list and no list are one.
func same(a, b ledger.State) bool { return reflect.DeepEqual(plain(a), plain(b)) }

func fresh(t *testing.T, size int) *disk.Disk {
	t.Helper()
	d, e := disk.New(size)
	if e != api.OK {
		t.Fatalf("a disk of %d bytes: %d", size, e)
	}
	return d
}

// texts is the bytes of records.
func texts(t *testing.T, l ...record.Record) []string {
	t.Helper()
	var all []string
	for _, r := range l {
		s, e := record.Encode(r)
		if e != api.OK {
			t.Fatalf("%+v has no bytes: %d", r, e)
		}
		all = append(all, s)
	}
	return all
}

// with is a disk with a journal that somebody else wrote, all of it safe.
func with(t *testing.T, size int, l ...string) *disk.Disk {
	t.Helper()
	d := fresh(t, size)
	j, _, e := journal.Open(d)
	if e != api.OK || j.Append(true, l...) != api.OK {
		t.Fatalf("%d texts aren't put: %d", len(l), e)
	}
	return d
}

// opened is the keeper of a disk, which must be one.
func opened(t *testing.T, d *disk.Disk, node, nodes, cells int) *Keep {
	t.Helper()
	k, e := Open(d, node, nodes, cells)
	if k == nil || e != api.OK {
		t.Fatalf("Open: %v, %d", k, e)
	}
	return k
}

// alone is a keeper of one node with one cell, and its disk.
func alone(t *testing.T, size int, l ...record.Record) (*Keep, *disk.Disk) {
	t.Helper()
	d := fresh(t, size)
	k := opened(t, d, 1, 1, 1)
	checkError(t, "Log", k.Log(true, l...), api.OK)
	return k, d
}

// stateOf is what records come to, from a node's first state on.
func stateOf(t *testing.T, node, nodes, cells int, l ...record.Record) ledger.State {
	t.Helper()
	s, e := ledger.First(node, nodes, cells)
	if e != api.OK {
		t.Fatalf("no first state: %d", e)
	}
	s, e = ledger.Apply(s, l...)
	if e != api.OK {
		t.Fatalf("%+v can't follow: %d", l, e)
	}
	return s
}

func checkError(t *testing.T, what string, got, want api.Errno) {
	t.Helper()
	if got != want {
		t.Errorf("%s: %d, want %d", what, got, want)
	}
}

func checkState(t *testing.T, k *Keep, want ledger.State) {
	t.Helper()
	if got := k.State(); !same(got, want) {
		t.Errorf("state %+v\nwant  %+v", got, want)
	}
}

// checkJournal tells whether a disk has the frames of just these records.
func checkJournal(t *testing.T, d *disk.Disk, l ...record.Record) {
	t.Helper()
	want := with(t, api.MaxDisk, texts(t, l...)...)
	if d.Bytes() != want.Bytes() {
		t.Errorf("the disk has %x\nwant         %x", d.Bytes(), want.Bytes())
	}
}

// checkLeft makes a call, and tells whether it is refused so and leaves the keeper and its disk as they were.
func checkLeft(t *testing.T, what string, k *Keep, d *disk.Disk, want api.Errno, call func() api.Errno) {
	t.Helper()
	s, bytes, safe, over := k.State(), d.Bytes(), d.Safe(), k.Over()
	checkError(t, what, call(), want)
	if d.Bytes() != bytes || d.Safe() != safe || k.Over() != over || !same(k.State(), s) {
		t.Errorf("%s: the keeper isn't as it was", what)
	}
}

// P9.1: the chapter's examples.
func TestExamples(t *testing.T) {
	d := fresh(t, 1000)
	k := opened(t, d, 1, 2, 3)
	checkState(t, k, stateOf(t, 1, 2, 3))
	checkError(t, "Log", k.Log(true, epoch(1)), api.OK)
	d.Crash(0)
	k = opened(t, d, 1, 2, 3)
	if k.State().Epoch != 1 || k.Len() != epochBytes || k.Over() {
		t.Error(k.State(), k.Len(), k.Over())
	}
}

// P9.1: the first states of all counts, and the error of First, ahead of the disk's.
func TestOpenOfNothing(t *testing.T) {
	for node := -1; node <= 18; node++ {
		for nodes := -1; nodes <= 18; nodes++ {
			for _, cells := range []int{math.MinInt, -1, 0, 1, 2, 15, 16, 17, math.MaxInt} {
				d := fresh(t, 100)
				k, e := Open(d, node, nodes, cells)
				s, want := ledger.First(node, nodes, cells)
				if e != want || (k == nil) != (e != api.OK) || !same(k.State(), s) {
					t.Fatalf("Open of %d, %d, %d: %d and %+v", node, nodes, cells, e, k.State())
				}
				if k, e := Open(nil, node, nodes, cells); k != nil || want == api.OK && e != api.ErrDown || want != api.OK && e != want {
					t.Fatalf("Open of no disk: %v, %d", k, e)
				}
			}
		}
	}
}

// P9.1: a disk that is down is told ahead of what its records are, behind what can't be a node; and it is left.
func TestOpenOfADiskThatIsDown(t *testing.T) {
	for _, l := range [][]string{nil, {"x"}, texts(t, epoch(1))} {
		d := with(t, 100, l...)
		bytes := d.Bytes()
		d.Fuse(2)
		d.Append("abc")
		k, e := Open(d, 1, 1, 1)
		if k != nil || e != api.ErrDown {
			t.Errorf("Open: %v, %d", k, e)
		}
		k, e = Open(d, 2, 1, 1)
		if k != nil || e != api.ErrArg {
			t.Errorf("Open of a node that can't be: %v, %d", k, e)
		}
		if d.Bytes() != bytes+"ab" {
			t.Errorf("the disk has %q", d.Bytes())
		}
	}
}

// P9.1: what a journal's records come to, and that what doesn't count is cut off.
func TestWhatCounts(t *testing.T) {
	b, p := base(1, 2, 3), wrote(own(1), 0, 0, 5)
	for _, x := range []struct {
		name   string
		counts []record.Record
		rest   []record.Record
	}{
		{"none", nil, nil},
		{"no Base", []record.Record{epoch(1), p, done(own(1), true)}, nil},
		{"a Whole alone", []record.Record{whole}, nil},
		{"Wholes between", []record.Record{whole, epoch(1), whole, whole, epoch(2), whole}, nil},
		{"a Base alone", nil, []record.Record{b}},
		{"a Base behind others", []record.Record{epoch(4), p}, []record.Record{b}},
		{"a Base with some behind it", []record.Record{epoch(4), p}, []record.Record{b, epoch(9), cellIs(0, 3, 3)}},
		{"a Base and a Whole", []record.Record{epoch(4), p, b, whole}, nil},
		{"the Base's own", []record.Record{epoch(4), p, b, epoch(2), cellIs(1, 7, 8), whole}, nil},
		{"behind the Whole", []record.Record{epoch(4), b, epoch(2), cellIs(0, 7, 8), whole, epoch(3), wrote(own(2), 0, 7, 9)}, nil},
		{"at the front", []record.Record{b, epoch(2), whole, epoch(3)}, nil},
		{"two whole ones", []record.Record{epoch(1), b, epoch(5), whole, epoch(6), b, epoch(2), whole, epoch(3)}, nil},
		{"a whole one and one that isn't", []record.Record{epoch(1), b, epoch(5), whole, epoch(6)}, []record.Record{b, epoch(2), p}},
		{"two Bases ahead of one Whole", []record.Record{epoch(1), b, epoch(5), b, epoch(2), whole, epoch(3)}, nil},
		{"two Bases, and no Whole", []record.Record{epoch(1)}, []record.Record{b, epoch(5), b, epoch(7)}},
		{"two Bases behind a whole one", []record.Record{b, whole, epoch(1)}, []record.Record{b, epoch(5), b}},
		{"what can't follow, but doesn't count", []record.Record{epoch(3)}, []record.Record{b, epoch(2), epoch(1), p, done(own(9), true), base(2, 2, 3)}},
		{"a Base that can't be, but doesn't count", []record.Record{epoch(3)}, []record.Record{base(2, 9, 9), epoch(2)}},
	} {
		d := with(t, 2000, texts(t, append(slices.Clone(x.counts), x.rest...)...)...)
		d.Append("\x00\x07torn")
		k, e := Open(d, 1, 2, 3)
		if e != api.OK {
			t.Errorf("%s: Open: %d", x.name, e)
			continue
		}
		checkState(t, k, stateOf(t, 1, 2, 3, x.counts...))
		checkJournal(t, d, x.counts...)
		if k.Len() != len(d.Bytes()) || k.Over() {
			t.Errorf("%s: Len %d, Over %t", x.name, k.Len(), k.Over())
		}
		s := k.State()
		checkError(t, x.name+": Log", k.Log(true, epoch(s.Epoch+1)), api.OK)
		checkJournal(t, d, append(slices.Clone(x.counts), epoch(s.Epoch+1))...)
		checkState(t, opened(t, d, 1, 2, 3), k.State())
	}
}

// P9.1: journals that are none of this node's: ErrForm, and the disk is as it was, with what is torn off at its end.
func TestOpenRefused(t *testing.T) {
	good := texts(t, epoch(1))
	for _, x := range []struct {
		name string
		l    []string
	}{
		{"an empty text", append(good, "")},
		{"no record", append(good, "x")},
		{"a record with a byte more", append(good, texts(t, epoch(2))[0]+"\x00")},
		{"a record with a byte less", append(good, texts(t, epoch(2))[0][:8])},
		{"no record at the front", append([]string{"\x00"}, good...)},
		{"no record among what doesn't count", append(texts(t, epoch(1), base(1, 2, 3)), "x")},
		{"one that can't follow", texts(t, epoch(1), epoch(1))},
		{"one that can't follow, ahead of a Base", texts(t, epoch(2), epoch(1), base(1, 2, 3), whole)},
		{"one that can't follow on a Base", texts(t, epoch(1), base(1, 2, 3), wrote(own(1), 0, 0, 5), whole)},
		{"one that can't follow behind the Whole", texts(t, base(1, 2, 3), epoch(2), whole, epoch(2))},
		{"one that counts, ahead of a Base that doesn't", texts(t, epoch(2), epoch(1), base(1, 2, 3), epoch(3))},
		{"another node", texts(t, base(2, 2, 3), whole)},
		{"another count of nodes", texts(t, base(1, 3, 3), whole)},
		{"another count of cells", texts(t, base(1, 2, 4), whole)},
		{"fewer cells", texts(t, base(1, 2, 2), whole)},
		{"another node at last", texts(t, base(1, 2, 3), whole, base(2, 2, 3), whole, epoch(1))},
		{"another node, and one that doesn't count", texts(t, base(2, 2, 3), whole, base(1, 2, 3), epoch(1))},
		{"a cell that another node has", texts(t, wrote(own(1), 1, 0, 5))},
	} {
		for _, torn := range []string{"", "\x00\x07torn"} {
			d := with(t, 2000, x.l...)
			safe := d.Safe()
			d.Append(torn)
			bytes := d.Bytes()
			if k, e := Open(d, 1, 2, 3); k != nil || e != api.ErrForm {
				t.Errorf("%s: %v, %d", x.name, k, e)
			}
			if d.Bytes() != bytes || d.Safe() != safe || d.Down() {
				t.Errorf("%s: an Open that is refused changes the disk", x.name)
			}
		}
	}
}

// P9.1: the state is of this node in the end, whatever it was.
func TestAnotherNodeAhead(t *testing.T) {
	l := []record.Record{base(2, 2, 3), epoch(7), whole, epoch(8), base(1, 2, 3), whole}
	checkState(t, opened(t, with(t, 1000, texts(t, l...)...), 1, 2, 3), stateOf(t, 1, 2, 3, l...))
}

// P9.1: Open asks nothing of the fuse, and spends nothing of it.
func TestOpenWithAFuse(t *testing.T) {
	d := with(t, 1000, texts(t, epoch(1), base(1, 1, 1))...)
	d.Fuse(0)
	k := opened(t, d, 1, 1, 1)
	checkJournal(t, d, epoch(1))
	checkError(t, "Log without a record", k.Log(false), api.OK)
	checkError(t, "Log", k.Log(false, epoch(2)), api.ErrDown)
}

// P9.1: what is put, forced or not.
func TestLog(t *testing.T) {
	k, d := alone(t, 1000)
	all := []record.Record{}
	for i, l := range [][]record.Record{
		{epoch(3)}, {}, {wrote(own(1), 0, 0, 5), done(own(1), true), epoch(4)}, {wrote(own(2), 0, 1, 6)}, {done(own(2), false)}, nil,
		{{Kind: record.Commit, Tid: own(1), Nodes: []int{1}}, {Kind: record.End, Tid: own(1)}}, {{Kind: record.Past, Tid: own(9)}},
	} {
		force := i%3 != 1
		safe := d.Safe()
		was := slices.Clone(l)
		checkError(t, "Log", k.Log(force, l...), api.OK)
		all = append(all, l...)
		if !reflect.DeepEqual(l, was) {
			t.Error("Log wrote into its records:", l)
		}
		if force {
			safe = len(d.Bytes())
		}
		if d.Safe() != safe || k.Len() != len(d.Bytes()) {
			t.Errorf("%d of %d bytes are safe, want %d; Len %d", d.Safe(), len(d.Bytes()), safe, k.Len())
		}
		checkState(t, k, stateOf(t, 1, 1, 1, all...))
		checkJournal(t, d, all...)
	}
}

// P9.1: what Log refuses, in order: it is over, a Base or a Whole anywhere among them, then what can't follow; nothing is put, and nothing changes.
func TestLogRefused(t *testing.T) {
	notRight := record.Record{Kind: record.Epoch, Num: -1}
	for _, x := range []struct {
		want api.Errno
		l    []record.Record
	}{
		{api.ErrArg, []record.Record{base(1, 1, 1)}},
		{api.ErrArg, []record.Record{whole}},
		{api.ErrArg, []record.Record{base(1, 1, 1), whole}},
		{api.ErrArg, []record.Record{epoch(5), whole}},
		{api.ErrArg, []record.Record{epoch(1), base(1, 1, 1)}},
		{api.ErrArg, []record.Record{epoch(1), epoch(5), whole, epoch(6)}},
		{api.ErrArg, []record.Record{wrote(own(1), 0, 7, 1), {Kind: record.Whole, Num: 3}}},
		{api.ErrArg, []record.Record{notRight}},
		{api.ErrArg, []record.Record{epoch(5), notRight}},
		{api.ErrArg, []record.Record{{}}},
		{api.ErrArg, []record.Record{{Kind: 13}}},
		{api.ErrArg, []record.Record{{Kind: math.MinInt}, epoch(1)}},
		{api.ErrOrder, []record.Record{epoch(1), notRight}},
		{api.ErrOrder, []record.Record{epoch(5), epoch(5)}},
		{api.ErrOrder, []record.Record{epoch(1)}},
		{api.ErrOrder, []record.Record{epoch(5), done(own(3), true)}},
		{api.ErrVersion, []record.Record{epoch(5), wrote(own(1), 0, 7, 1)}},
		{api.ErrLocked, []record.Record{wrote(own(1), 0, 0, 1), wrote(own(2), 0, 0, 1)}},
		{api.ErrThere, []record.Record{wrote(own(1), 0, 0, 1), wrote(own(1), 0, 0, 1)}},
		{api.ErrNone, []record.Record{{Kind: record.End, Tid: own(1)}}},
	} {
		for _, force := range []bool{false, true} {
			for _, size := range []int{epochBytes, 1000} { // whether there is room isn't asked ahead of it
				d := with(t, size, texts(t, epoch(4))...)
				k := opened(t, d, 1, 1, 1)
				checkLeft(t, "Log", k, d, x.want, func() api.Errno { return k.Log(force, x.l...) })
			}
		}
	}
}

// epochs is the epochs from the first one to the last one.
func epochs(first, last int) []record.Record {
	var l []record.Record
	for n := first; n <= last; n++ {
		l = append(l, epoch(n))
	}
	return l
}

// anew is the records with which a journal of one node with one cell begins anew, which has only had epochs.
func anew(last int) []record.Record {
	return []record.Record{base(1, 1, 1), epoch(last), cellIs(0, 0, 0), whole}
}

// P9.1: with more bytes than half of the disk, also of an odd one, the journal begins anew ahead of the records; with just half it doesn't.
func TestHalf(t *testing.T) {
	for n := 8; n < 14; n++ {
		for more := range 4 {
			bytes := (n + more) * epochBytes
			for size := 2*bytes - 4; size <= 2*bytes+4; size++ {
				for _, force := range []bool{false, true} {
					d := with(t, size, texts(t, epochs(1, n)...)...)
					k := opened(t, d, 1, 1, 1)
					checkError(t, "Log", k.Log(force, epochs(n+1, n+more)...), api.OK)
					checkState(t, k, stateOf(t, 1, 1, 1, epoch(n+more)))
					want, safe := epochs(1, n), n*epochBytes
					if size < 2*bytes {
						want, safe = anew(n), renewed
					}
					checkJournal(t, d, append(want, epochs(n+1, n+more)...)...)
					if force {
						safe = k.Len()
					}
					if d.Safe() != safe {
						t.Errorf("%d of %d bytes are safe, want %d", d.Safe(), k.Len(), safe)
					}
				}
			}
		}
	}
}

// P9.1: that there is no room to begin anew isn't told, as long as the records fit behind the elder ones; when they don't, all stays.
func TestNoRoomToRenew(t *testing.T) {
	for _, size := range []int{0, 1, 14, 15, 16, 60, renewed - 1} {
		k, d := alone(t, size)
		n := 0
		for ; (n+1)*epochBytes <= size; n++ {
			checkError(t, "Log", k.Log(n%2 == 0, epoch(n+1)), api.OK)
			checkJournal(t, d, epochs(1, n+1)...)
		}
		for _, l := range [][]record.Record{{epoch(n + 1)}, epochs(n+1, n+9), {wrote(own(1), 0, 0, 1)}} {
			checkLeft(t, "Log", k, d, api.ErrFull, func() api.Errno { return k.Log(true, l...) })
		}
		checkLeft(t, "Renew", k, d, api.ErrFull, k.Renew)
		checkState(t, k, stateOf(t, 1, 1, 1, epochs(1, n)...))
		checkError(t, "Log without a record", k.Log(true), api.OK)
		if k.Over() || d.Safe() != k.Len() {
			t.Error("over, or not synced:", k.Over(), d.Safe(), k.Len())
		}
	}
}

// P9.1: the journal has begun anew, though behind that there is no room for the records: the state is as it was.
func TestRenewedButFull(t *testing.T) {
	d := with(t, epochBytes+renewed+20, texts(t, epoch(1))...)
	k := opened(t, d, 1, 1, 1)
	checkError(t, "Log", k.Log(true, wrote(own(1), 0, 0, 5)), api.ErrFull)
	checkJournal(t, d, anew(1)...)
	checkState(t, k, stateOf(t, 1, 1, 1, epoch(1)))
	checkError(t, "Log", k.Log(true, epoch(2)), api.OK)
	checkJournal(t, d, append(anew(1), epoch(2))...)
}

// P9.1: the disk goes down while the journal begins anew ahead of records: they aren't put.
func TestRenewOfLogDown(t *testing.T) {
	for fuse := range renewed + 2 {
		d := with(t, 400, texts(t, epochs(1, 13)...)...)
		k := opened(t, d, 1, 1, 1)
		d.Fuse(fuse)
		checkError(t, "Log", k.Log(false, epoch(14)), api.ErrDown)
		checkOver(t, k, stateOf(t, 1, 1, 1, epoch(13)))
		d.Crash(math.MaxInt)
		checkState(t, opened(t, d, 1, 1, 1), stateOf(t, 1, 1, 1, epoch(13)))
	}
}

// checkOver tells whether a keeper is over, refuses all, and tells the state that it had.
func checkOver(t *testing.T, k *Keep, s ledger.State) {
	t.Helper()
	for _, force := range []bool{false, true} {
		for _, l := range [][]record.Record{nil, {epoch(9)}, {base(1, 1, 1)}, {whole}, {{}}, {done(own(7), true)}} {
			checkError(t, "Log at one that is over", k.Log(force, l...), api.ErrDown)
		}
	}
	checkError(t, "Renew of one that is over", k.Renew(), api.ErrDown)
	if !k.Over() || k.Len() != 0 {
		t.Errorf("Over %t, Len %d", k.Over(), k.Len())
	}
	checkState(t, k, s)
}

// P9.1: a keeper whose disk goes down is over, and stays so behind a crash; it tells its state, which isn't behind the records that broke it.
func TestOver(t *testing.T) {
	for fuse := range epochBytes + 1 {
		k, d := alone(t, 1000, epoch(1))
		s := k.State()
		d.Fuse(fuse)
		checkError(t, "Log", k.Log(true, epoch(2)), api.ErrDown)
		bytes := d.Bytes()
		checkOver(t, k, s)
		if d.Bytes() != bytes {
			t.Error("one that is over writes")
		}
		d.Crash(0)
		checkOver(t, k, s)
		checkState(t, opened(t, d, 1, 1, 1), s)
	}
	k, d := alone(t, 1000, epoch(1))
	d.Fuse(0)
	d.Sync()
	if k.Over() || k.Len() != epochBytes {
		t.Error("a keeper that wrote nothing is over")
	}
	checkError(t, "Log of what may not be", k.Log(true, whole), api.ErrArg)
	checkError(t, "Log of what can't follow", k.Log(true, epoch(1)), api.ErrOrder)
	checkError(t, "Renew", k.Renew(), api.ErrDown)
	checkOver(t, k, stateOf(t, 1, 1, 1, epoch(1)))
}

// P9.1: a Log without records, and not forced, asks the journal for nothing that needs the disk: it is OK also of one that is down, as long as the journal needn't begin anew.
func TestLogOfNoRecordsToADiskThatIsDown(t *testing.T) {
	for _, size := range []int{0, 1, 2 * epochBytes, 1000} {
		d := fresh(t, size)
		k := opened(t, d, 1, 1, 1)
		if size >= 2*epochBytes {
			checkError(t, "Log", k.Log(true, epoch(1)), api.OK)
		}
		s := k.State()
		d.Fuse(0)
		d.Sync()
		for range 2 {
			checkLeft(t, "Log of no records, the disk down", k, d, api.OK, func() api.Errno { return k.Log(false) })
		}
		checkError(t, "Log of no records, forced, the disk down", k.Log(true), api.ErrDown)
		checkOver(t, k, s)
	}
	k, d := alone(t, 200, epoch(1), epoch(2), epoch(3), epoch(4), epoch(5), epoch(6)) // within half, and then above it
	checkError(t, "Log", k.Journal.Append(true, texts(t, epoch(7))...), api.OK)
	d.Fuse(0)
	d.Sync()
	checkLeft(t, "Log of no records, no room to begin anew", k, d, api.OK, func() api.Errno { return k.Log(false) })
	k, d = alone(t, 400, epoch(1))
	checkError(t, "Log", k.Log(false, wrote(own(1), 0, 0, 5), epoch(2), epoch(3)), api.OK)
	for k.Len() <= 200 {
		checkError(t, "Append at the journal", k.Journal.Append(true, texts(t, epoch(9))...), api.OK)
	}
	s := k.State()
	d.Fuse(0)
	d.Sync()
	checkError(t, "Log of no records, which is to begin anew", k.Log(false), api.ErrDown)
	checkOver(t, k, s)
}

// P9.1: Renew puts the records that make the state, and a Whole, and nothing else is left; the state stays, and so it does with the next one.
func TestRenew(t *testing.T) {
	d := fresh(t, 10000)
	k := opened(t, d, 1, 2, 3)
	all := []record.Record{
		epoch(3), wrote(own(1), 0, 0, 5), done(own(1), true), wrote(own(2), 0, 1, 6), wrote(own(3), 2, 0, 6), done(own(3), true),
		{Kind: record.Out, Cell: 2, Hop: 1, Node: 2}, {Kind: record.In, Cell: 1, Hop: 1, Version: 4, Value: -4}, {Kind: record.Past, Tid: own(8)},
		{Kind: record.Commit, Tid: own(1), Items: []api.Item{{Cell: 0, Write: true, New: 5}}, Nodes: []int{1}}, {Kind: record.Commit, Tid: own(3), Nodes: []int{1, 2}},
		{Kind: record.End, Tid: own(1)},
	}
	for n := range len(all) + 1 {
		if n > 0 {
			checkError(t, "Log", k.Log(false, all[n-1]), api.OK)
		}
		for range 2 {
			checkError(t, "Renew", k.Renew(), api.OK)
			s := stateOf(t, 1, 2, 3, all[:n]...)
			checkState(t, k, s)
			checkJournal(t, d, append(ledger.Records(s), whole)...)
			if d.Safe() != k.Len() || k.Over() {
				t.Error("not safe, or over:", d.Safe(), k.Len(), k.Over())
			}
			checkState(t, opened(t, d, 1, 2, 3), s)
		}
	}
}

// P9.1: tables that are full are renewed, on a disk as great as there may be.
func TestRenewOfFullTables(t *testing.T) {
	k, d := alone(t, api.MaxDisk, epoch(2))
	for i := range api.MaxTable {
		l := []record.Record{{Kind: record.Past, Tid: own(i + 1), Yes: i%2 == 0}, {Kind: record.Commit, Tid: own(api.MaxTable - i), Nodes: []int{1}}}
		checkError(t, "Log", k.Log(false, l...), api.OK)
	}
	s := k.State()
	checkLeft(t, "Log", k, d, api.ErrFull, func() api.Errno { return k.Log(true, record.Record{Kind: record.Past, Tid: own(999)}) })
	checkError(t, "Renew", k.Renew(), api.OK)
	checkState(t, k, s)
	checkState(t, opened(t, d, 1, 1, 1), s)
}

// P9.1: the journal stays within half of the disk, or a renewed one and the last records, however much is put.
func TestNeverFull(t *testing.T) {
	k, d := alone(t, 1000)
	seen := 0
	for i := 1; i <= 2000; i++ {
		checkError(t, "Log", k.Log(i%3 == 0, epoch(i)), api.OK)
		seen = max(seen, k.Len())
	}
	checkState(t, k, stateOf(t, 1, 1, 1, epoch(2000)))
	if seen > 500 || seen < 480 {
		t.Error("the journal had", seen)
	}
	d.Crash(math.MaxInt)
	checkState(t, opened(t, d, 1, 1, 1), stateOf(t, 1, 1, 1, epoch(2000)))
}

// P9.1: no keeper, and one that nobody opened.
func TestNil(t *testing.T) {
	for _, k := range []*Keep{nil, {}} {
		for range 2 {
			checkOver(t, k, ledger.State{})
		}
	}
}

// Rule 2: no memory is shared, with what is handed in, with what is kept, or between answers.
func TestNoSharedMemory(t *testing.T) {
	k, _ := alone(t, 2000)
	l := []record.Record{epoch(1), wrote(own(1), 0, 0, 5), {Kind: record.Commit, Tid: own(1), Items: []api.Item{{Cell: 0}}, Nodes: []int{1}}, {Kind: record.Past, Tid: own(2)}}
	checkError(t, "Log", k.Log(true, l...), api.OK)
	want := plain(k.State())
	for _, r := range l {
		for i := range r.Items {
			r.Items[i].Cell = 9
		}
		for i := range r.Nodes {
			r.Nodes[i] = 9
		}
	}
	checkState(t, k, want)
	s := k.State()
	_, _, _ = append(s.Places[:0], ledger.Place{}), append(s.Prepared[:0], ledger.Prepared{}), append(s.Commits[0].Items[:0], api.Item{Cell: 8})
	s.Decided[0].Yes, s.Commits[0].Nodes[0] = true, 8
	checkState(t, k, want)
	s = k.State()
	s.Prepared[0].Items[0].Cell, s.Prepared[0].Nodes[0], s.Places[0].Version = 8, 8, 8
	checkState(t, k, want)
	checkError(t, "Renew", k.Renew(), api.OK)
	checkState(t, k, want)
}
