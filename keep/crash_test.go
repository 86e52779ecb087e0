package keep

import (
	"math"
	"slices"
	"testing"

	"remuda/api"
	"remuda/disk"
	"remuda/ledger"
	"remuda/record"
)

// past is what may be found behind a crash: what all the forced records, and a beginning of the loose ones, come to.
type past struct {
	first         ledger.State
	forced, loose []record.Record
}

func (p past) all() []record.Record { return slices.Concat(p.forced, p.loose) }

// found is how many of the loose records a state is behind; -1, if it may not be found.
func (p past) found(s ledger.State) int {
	u, _ := ledger.Apply(p.first, p.forced...)
	for n := 0; ; n++ {
		if same(s, u) {
			return n
		}
		if n == len(p.loose) {
			return -1
		}
		u, _ = ledger.Apply(u, p.loose[n])
	}
}

// behind is the past behind a call that was handed these records and answered e: what was broken off may be there all the same, but isn't forced.
func (p past) behind(force bool, l []record.Record, e api.Errno) past {
	switch {
	case e == api.OK && force:
		return past{first: p.first, forced: slices.Concat(p.all(), l)}
	case e == api.OK, e == api.ErrDown:
		return past{first: p.first, forced: p.forced, loose: slices.Concat(p.loose, l)}
	}
	return p
}

// call is a call at a keeper, by the state that it has: a Log, or a Renew, which is as a forced one without records.
type call struct {
	renew, force bool
	records      func(s ledger.State) []record.Record
}

func (c call) make(k *Keep, p past) (past, api.Errno) {
	if c.renew {
		e := k.Renew()
		return p.behind(true, nil, e), e
	}
	l := c.records(k.State())
	e := k.Log(c.force, l...)
	return p.behind(c.force, l, e), e
}

func none(ledger.State) []record.Record      { return nil }
func anEpoch(s ledger.State) []record.Record { return []record.Record{epoch(s.Epoch + 1)} }

// transaction is one that is prepared and committed at once, and two epochs.
func transaction(s ledger.State) []record.Record {
	r := prepares(s)
	return []record.Record{epoch(s.Epoch + 1), r, done(r.Tid, true), epoch(s.Epoch + 2)}
}

// lasting is a transaction that stays prepared, if the cell isn't locked.
func lasting(s ledger.State) []record.Record {
	if ledger.Locked(s, 0) {
		return []record.Record{decides(s, true)}
	}
	return []record.Record{prepares(s)}
}

func calls() []call {
	return []call{
		{force: true, records: none}, {records: anEpoch}, {force: true, records: anEpoch},
		{records: transaction}, {force: true, records: transaction}, {records: lasting}, {force: true, records: lasting}, {renew: true},
	}
}

// played is a disk at which calls were made, the last of them with a fuse, and the past then; and what the last one answered.
func played(t *testing.T, size, fuse int, l []call) (*disk.Disk, past, api.Errno) {
	t.Helper()
	d := fresh(t, size)
	k := opened(t, d, 1, 1, 1)
	p := past{first: k.State()}
	e := api.OK
	for i, c := range l {
		if i == len(l)-1 {
			d.Fuse(fuse)
		}
		p, e = c.make(k, p)
	}
	return d, p, e
}

// checkCrash makes a crash, opens the disk, and tells whether it finds what it may find, also behind one more crash; and whether all goes on from there.
func checkCrash(t *testing.T, d *disk.Disk, p past, keep int) (ledger.State, int) {
	t.Helper()
	d.Crash(keep)
	k := opened(t, d, 1, 1, 1)
	s := k.State()
	n := p.found(s)
	if n < 0 {
		t.Fatalf("Crash(%d): %+v\nforced %+v\nloose %+v", keep, s, p.forced, p.loose)
	}
	if k.Len() != len(d.Bytes()) || d.Safe() != k.Len() {
		t.Fatalf("Len %d, %d bytes, %d safe", k.Len(), len(d.Bytes()), d.Safe())
	}
	d.Crash(0)
	k = opened(t, d, 1, 1, 1)
	checkState(t, k, s)
	if e := k.Log(true, epoch(s.Epoch+1)); e != api.ErrFull {
		checkError(t, "Log behind a crash", e, api.OK)
		s, _ = ledger.Apply(s, epoch(s.Epoch+1))
	}
	d.Crash(0)
	checkState(t, opened(t, d, 1, 1, 1), s)
	return s, n
}

// checkEachCrash breaks the last call off at each byte, at each Sync and at each Drop, with crashes that keep this and that many bytes; at last the call isn't broken off.
func checkEachCrash(t *testing.T, size int, l []call) {
	t.Helper()
	for fuse := 0; ; fuse++ {
		loose := 0
		for keep := 0; keep <= loose+1; keep += 1 + keep {
			d, p, _ := played(t, size, fuse, l)
			loose = len(d.Bytes()) - d.Safe()
			checkCrash(t, d, p, keep)
		}
		d, p, e := played(t, size, fuse, l)
		checkCrash(t, d, p, math.MaxInt)
		if e != api.ErrDown {
			return
		}
	}
}

// P9.2: of all lists of two calls, and of some that are longer, on disks on which the journal begins anew soon, late, and never; whatever byte of the last one breaks it off, and whatever the crash keeps.
func TestEachCallBrokenOff(t *testing.T) {
	for _, size := range []int{200, 400, 3000} {
		for _, a := range calls() {
			checkEachCrash(t, size, []call{a})
			for _, b := range calls() {
				checkEachCrash(t, size, []call{a, b})
			}
		}
		for _, last := range calls() {
			all := calls()
			checkEachCrash(t, size, []call{all[6], all[1], last})
			checkEachCrash(t, size, []call{all[4], all[7], all[3], last})
		}
	}
}

// P9.2: a Renew changes no state, also one that is broken off, and whatever the crash keeps; and one that isn't broken off makes safe what wasn't.
func TestRenewChangesNoState(t *testing.T) {
	for fuse := 0; ; fuse++ {
		for keep := 0; keep < 400; keep += 1 + keep/8 {
			k, d := alone(t, 2000, epoch(1), wrote(own(1), 0, 0, 5), done(own(1), true), wrote(own(2), 0, 1, 6))
			s := k.State()
			d.Fuse(fuse)
			e := k.Renew()
			checkState(t, k, s)
			d.Crash(keep)
			checkState(t, opened(t, d, 1, 1, 1), s)
			if e != api.ErrDown {
				return
			}
		}
	}
}

// P9.2: each beginning of what isn't forced is met behind a Renew that is broken off, and nothing else.
func TestLooseBehindRenew(t *testing.T) {
	loose := []record.Record{epoch(2), wrote(own(1), 0, 0, 5), done(own(1), true)}
	met := map[int]bool{}
	for fuse := range 300 {
		for keep := 0; keep < 400; keep += 5 {
			k, d := alone(t, 2000, epoch(1))
			p := past{first: stateOf(t, 1, 1, 1), forced: []record.Record{epoch(1)}, loose: loose}
			checkError(t, "Log", k.Log(false, loose...), api.OK)
			d.Fuse(fuse)
			p = p.behind(true, nil, k.Renew())
			_, n := checkCrash(t, d, p, keep)
			met[n+len(p.forced)] = true
		}
	}
	for n := 1; n <= 4; n++ {
		if !met[n] {
			t.Errorf("no crash leaves %d records", n)
		}
	}
}

// P9.2: over long runs with many crashes, each behind which the next ones go on.
func TestManyCrashes(t *testing.T) {
	r := chance()
	crashes, renewals := 0, 0
	for range 300 {
		d := fresh(t, 300+r.IntN(3000))
		k := opened(t, d, 1, 2, 3)
		p := past{first: k.State()}
		for range 150 {
			d.Fuse(r.IntN(4000))
			had := k.Len()
			c := call{renew: r.IntN(12) == 0, force: r.IntN(3) == 0, records: func(s ledger.State) []record.Record { return anyRecords(r, s) }}
			p, _ = c.make(k, p)
			if k.Len() < had && !k.Over() {
				renewals++
			}
			if !k.Over() && r.IntN(20) > 0 {
				continue
			}
			crashes++
			d.Crash(r.IntN(400))
			k = opened(t, d, 1, 2, 3)
			n := p.found(k.State())
			if n < 0 {
				t.Fatalf("%+v\nforced %+v\nloose %+v", k.State(), p.forced, p.loose)
			}
			p = past{first: p.first, forced: slices.Concat(p.forced, p.loose[:n])}
		}
	}
	if crashes < 1000 || renewals < 300 {
		t.Error("few crashes or renewals:", crashes, renewals)
	}
}
