package journal

import (
	"slices"
	"strings"
	"testing"

	"remuda/api"
	"remuda/disk"
)

// past is which records may be told behind a crash.
type past struct {
	forced []string // all of these
	loose  []string // a beginning of these behind them
	broken bool     // a Renew was broken off: ..
	anew   []string // .. or these alone
}

func (p past) all() []string { return slices.Concat(p.forced, p.loose) }

func begins(part, whole []string) bool {
	return len(part) <= len(whole) && slices.Equal(part, whole[:len(part)])
}

func (p past) allows(l []string) bool {
	return begins(p.forced, l) && begins(l, p.all()) || p.broken && slices.Equal(l, p.anew)
}

// call is a call at a journal, and what it makes of the past: done, and broken off.
type call struct {
	do   func(j *Journal) api.Errno
	done func(p past) past
	off  func(p past) past
}

func appends(force bool, l ...string) call {
	loose := func(p past) past { return past{forced: p.forced, loose: slices.Concat(p.loose, l)} }
	done := loose
	if force {
		done = func(p past) past { return past{forced: slices.Concat(p.all(), l)} }
	}
	return call{func(j *Journal) api.Errno { return j.Append(force, l...) }, done, loose}
}

func renews(l ...string) call {
	return call{
		func(j *Journal) api.Errno { return j.Renew(l...) },
		func(past) past { return past{forced: l} },
		func(p past) past {
			return past{forced: p.forced, loose: slices.Concat(p.loose, l), broken: true, anew: l}
		},
	}
}

func backs(n int) call {
	return call{
		func(j *Journal) api.Errno { return j.Back(n) },
		func(p past) past {
			forced := p.forced[:min(n, len(p.forced))]
			return past{forced: forced, loose: p.all()[len(forced):n]}
		},
		func(p past) past { return p },
	}
}

// behind is the past behind a call that answered e.
func (c call) behind(p past, e api.Errno) past {
	switch e {
	case api.OK:
		return c.done(p)
	case api.ErrDown:
		return c.off(p)
	}
	return p
}

// played is a disk on which calls were made, the last of them with a fuse, and the past then; and what the last one answered.
func played(t *testing.T, size, fuse int, calls []call) (*disk.Disk, past, api.Errno) {
	t.Helper()
	d := fresh(t, size)
	j := opened(t, d)
	var p past
	e := api.OK
	for i, c := range calls {
		if i == len(calls)-1 {
			d.Fuse(fuse)
		}
		e = c.do(j)
		p = c.behind(p, e)
	}
	return d, p, e
}

// checkCrash makes a crash, opens the disk's journal, and tells whether it has what it may have, also behind one more crash, and goes on.
func checkCrash(t *testing.T, d *disk.Disk, p past, keep int) {
	t.Helper()
	d.Crash(keep)
	j, l, e := Open(d)
	if e != api.OK || !p.allows(l) {
		t.Fatalf("Crash(%d): %q, %d; forced %q, behind them a beginning of %q; a Renew broken off: %t, of %q", keep, l, e, p.forced, p.loose, p.broken, p.anew)
	}
	checkHas(t, j, d, len(framed(l...)), l...)
	d.Crash(0)
	checkHas(t, opened(t, d, l...), d, len(framed(l...)), l...)
	if e := j.Append(true, "z"); e != api.ErrFull {
		checkError(t, "Append behind a crash", e, api.OK)
		d.Crash(0)
		opened(t, d, append(l, "z")...)
	}
}

// checkEachCrash breaks the last call off at each byte, at the Sync and at the Drop, and makes a crash with each count of bytes that are kept; at last the call isn't broken off.
func checkEachCrash(t *testing.T, size int, calls []call) {
	t.Helper()
	for fuse := 0; ; fuse++ {
		loose := 0
		for keep := 0; keep <= loose+1; keep++ {
			d, p, _ := played(t, size, fuse, calls)
			loose = len(d.Bytes()) - d.Safe()
			checkCrash(t, d, p, keep)
		}
		if _, _, e := played(t, size, fuse, calls); e != api.ErrDown {
			return
		}
	}
}

// P5.2: of all lists of up to three calls, whatever byte of the last one breaks it off, and whatever the crash keeps.
func TestEachCallBrokenOff(t *testing.T) {
	calls := []call{
		appends(false), appends(true), appends(false, "a", "bc"), appends(true, "d"), appends(true, "", "ef"), appends(true, strings.Repeat("x", 60)),
		renews(), renews("g", "h"), backs(0), backs(1), backs(3),
	}
	for _, a := range calls {
		checkEachCrash(t, 60, []call{a})
		for _, b := range calls {
			checkEachCrash(t, 60, []call{a, b})
			for _, c := range calls {
				checkEachCrash(t, 60, []call{a, b, c})
			}
		}
	}
}

// P5.2: of records that have more bytes than one, in the length of their frame too.
func TestLongRecordsBrokenOff(t *testing.T) {
	l := []string{strings.Repeat("a", 300), strings.Repeat("b", 4096)}
	for _, last := range []call{appends(false, l...), appends(true, l...), renews(l...)} {
		calls := []call{appends(true, "c"), appends(false, "d"), last}
		for fuse := 0; fuse < 4420; fuse += 1 + fuse%97 {
			for keep := 0; keep < 4440; keep += 1 + keep%89 {
				d, p, _ := played(t, 5000, fuse, calls)
				checkCrash(t, d, p, keep)
			}
		}
	}
}

// P5.2: what a Renew leaves that was broken off: the elder ones alone, with a beginning of the new ones, or with all; only a whole one leaves the new ones alone.
func TestRenewBrokenOff(t *testing.T) {
	met := map[string]bool{}
	for fuse := range 18 {
		for keep := range 24 {
			d, _, _ := played(t, 60, fuse, []call{appends(true, "a"), appends(false, "b"), renews("c", "de")})
			d.Crash(keep)
			_, l, _ := Open(d)
			met[strings.Join(l, " ")] = true
		}
	}
	for _, want := range []string{"a", "a b", "a b c", "a b c de", "c de"} {
		if !met[want] {
			t.Errorf("no crash leads to %q", want)
		}
		delete(met, want)
	}
	if len(met) > 0 {
		t.Errorf("crashes lead to %v", met)
	}
}

// P5.2: over long runs with many crashes, each behind which the next ones go on.
func TestManyCrashes(t *testing.T) {
	r := chance()
	for range 300 {
		d := fresh(t, 100+r.IntN(300))
		j := opened(t, d)
		var p past
		for range 60 {
			var l []string
			for range r.IntN(4) {
				l = append(l, strings.Repeat("r", r.IntN(9)))
			}
			n := r.IntN(5)
			c := []call{appends(false, l...), appends(false, l...), appends(true, l...), renews(l...), backs(max(0, len(p.all())-n))}[r.IntN(5)]
			if r.IntN(5) == 0 {
				d.Fuse(r.IntN(50))
			}
			e := c.do(j)
			p = c.behind(p, e)
			if e != api.ErrDown && r.IntN(9) > 0 {
				continue
			}
			d.Crash(r.IntN(60))
			var told []string
			j, told, e = Open(d)
			if e != api.OK || !p.allows(told) {
				t.Fatalf("%q, %d; forced %q, behind them a beginning of %q", told, e, p.forced, p.loose)
			}
			p = past{forced: told}
		}
	}
}
