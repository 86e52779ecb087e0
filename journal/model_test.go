package journal

import (
	"slices"
	"strings"
	"testing"

	"remuda/api"
	"remuda/disk"
)

// book is what a journal can do; the model below does the same by other means.
type book interface {
	Append(force bool, l ...string) api.Errno
	Renew(l ...string) api.Errno
	Back(n int) api.Errno
	Len() int
	Over() bool
}

// model is a journal and its disk as the chapters' words have them: whole frames, and a part of one behind them.
type model struct {
	size   int
	whole  []string
	part   string
	safe   int
	fused  bool
	left   int
	isDown bool
	isOver bool
}

func (m *model) bytes() string { return strings.Join(m.whole, "") + m.part }

// burn spends one byte of the fuse, and tells whether there was one; if not, the disk is down, and the journal over.
func (m *model) burn() bool {
	if m.isDown || m.fused && m.left == 0 {
		m.isDown, m.isOver = true, true
		return false
	}
	m.left--
	return true
}

// put puts records, byte by byte.
func (m *model) put(l []string) api.Errno {
	size := len(m.bytes())
	for _, r := range l {
		size += len(framed(r[:min(len(r), 4097)]))
	}
	switch {
	case m.isOver:
		return api.ErrDown
	case slices.ContainsFunc(l, func(r string) bool { return len(r) > 4096 }):
		return api.ErrLong
	case size > m.size:
		return api.ErrFull
	case m.isDown && len(l) > 0:
		m.isOver = true
		return api.ErrDown
	}
	for _, r := range l {
		f := framed(r)
		for i := range len(f) {
			if !m.burn() {
				return api.ErrDown
			}
			m.part += f[i : i+1]
		}
		m.whole, m.part = append(m.whole, f), ""
	}
	return api.OK
}

func (m *model) sync() api.Errno {
	if !m.burn() {
		return api.ErrDown
	}
	m.safe = len(m.bytes())
	return api.OK
}

func (m *model) Append(force bool, l ...string) api.Errno {
	if e := m.put(l); e != api.OK || !force {
		return e
	}
	return m.sync()
}

func (m *model) Renew(l ...string) api.Errno {
	elder := len(m.whole)
	if e := m.put(l); e != api.OK {
		return e
	}
	if e := m.sync(); e != api.OK {
		return e
	}
	if !m.burn() {
		return api.ErrDown
	}
	m.whole = m.whole[elder:]
	m.safe = len(m.bytes())
	return api.OK
}

func (m *model) Back(n int) api.Errno {
	switch {
	case m.isOver:
		return api.ErrDown
	case n < 0, n > len(m.whole):
		return api.ErrArg
	case m.isDown:
		m.isOver = true
		return api.ErrDown
	}
	m.whole = m.whole[:n]
	m.safe = min(m.safe, len(m.bytes()))
	return api.OK
}

func (m *model) Len() int {
	if m.isOver {
		return 0
	}
	return len(m.bytes())
}

func (m *model) Over() bool { return m.isOver }

// crash keeps some bytes of the disk, and opens a new journal on it.
func (m *model) crash(keep int) {
	n := min(m.safe+keep, len(m.bytes()))
	i := 0
	for i < len(m.whole) && len(strings.Join(m.whole[:i+1], "")) <= n {
		i++
	}
	whole := m.whole[:i]
	*m = model{size: m.size, whole: whole, safe: len(strings.Join(whole, ""))}
}

// pair is a journal on its disk, and the model of both.
type pair struct {
	j *Journal
	d *disk.Disk
	m *model
}

func newPair(t *testing.T, size int) *pair {
	t.Helper()
	d := fresh(t, size)
	return &pair{opened(t, d), d, &model{size: size}}
}

// call makes a call at the journal and at the model, and tells whether both answer the same.
func (p *pair) call(f func(b book) api.Errno) bool { return f(p.j) == f(p.m) }

// fuse sets a fuse.
func (p *pair) fuse(n int) bool {
	p.d.Fuse(n)
	p.m.fused, p.m.left = n >= 0, n
	return true
}

// goDown lets the disk go down, by nothing that the journal sees.
func (p *pair) goDown() bool {
	p.fuse(0)
	p.m.isDown = true
	return p.d.Sync() == api.ErrDown
}

// crash makes a crash, and opens the journal of the disk anew.
func (p *pair) crash(keep int) bool {
	p.d.Crash(keep)
	p.m.crash(keep)
	j, l, e := Open(p.d)
	p.j = j
	return e == api.OK && framed(l...) == p.m.bytes()
}

// same tells whether the journal and the model are the same.
func (p *pair) same() bool {
	return p.d.Bytes() == p.m.bytes() && p.d.Safe() == p.m.safe && p.d.Down() == p.m.isDown && p.j.Len() == p.m.Len() && p.j.Over() == p.m.Over()
}

// steps is steps of every kind, with the edges of a small disk.
func steps() []func(p *pair) bool {
	calls := []func(b book) api.Errno{
		func(b book) api.Errno { return b.Append(false) },
		func(b book) api.Errno { return b.Append(true) },
		func(b book) api.Errno { return b.Append(false, "a", "") },
		func(b book) api.Errno { return b.Append(true, "bc") },
		func(b book) api.Errno { return b.Append(true, "d", strings.Repeat("x", 4097)) },
		func(b book) api.Errno { return b.Append(true, strings.Repeat("y", 30)) },
		func(b book) api.Errno { return b.Renew() },
		func(b book) api.Errno { return b.Renew("e", "fg") },
		func(b book) api.Errno { return b.Back(-1) },
		func(b book) api.Errno { return b.Back(0) },
		func(b book) api.Errno { return b.Back(2) },
	}
	var l []func(p *pair) bool
	for _, f := range calls {
		l = append(l, func(p *pair) bool { return p.call(f) })
	}
	for _, n := range []int{0, 9, 17} {
		l = append(l,
			func(p *pair) bool { return p.fuse(n) },
			func(p *pair) bool { return p.crash(n) },
		)
	}
	return append(l, (*pair).goDown)
}

// P5.1: in every order, of up to four steps, the journal does what its model does.
func TestEveryOrder(t *testing.T) {
	l := steps()
	all := 1
	for range 4 {
		all *= len(l)
	}
	for i := range all { // all lists of four: their beginnings are all shorter ones
		p := newPair(t, 50)
		for k, rest := 0, i; k < 4; k, rest = k+1, rest/len(l) {
			if !l[rest%len(l)](p) || !p.same() {
				t.Fatalf("the list %d, the step %d of it (%d): the disk has %q, the model is %+v", i, k, rest%len(l), p.d.Bytes(), *p.m)
			}
		}
	}
}

// P5.1: in long orders, over disks of many sizes.
func TestLongOrders(t *testing.T) {
	r := chance()
	for range 1500 {
		p := newPair(t, r.IntN(300))
		for range 80 {
			var l []string
			for range r.IntN(4) {
				l = append(l, strings.Repeat("r", r.IntN(20)))
			}
			n, force := r.IntN(12)-1, r.IntN(2) == 0
			step := []func(p *pair) bool{
				func(p *pair) bool { return p.call(func(b book) api.Errno { return b.Append(force, l...) }) },
				func(p *pair) bool { return p.call(func(b book) api.Errno { return b.Append(force, l...) }) },
				func(p *pair) bool { return p.call(func(b book) api.Errno { return b.Renew(l...) }) },
				func(p *pair) bool { return p.call(func(b book) api.Errno { return b.Back(n) }) },
				func(p *pair) bool { return p.fuse(20 * n) },
				func(p *pair) bool { return p.crash(3 * max(n, 0)) },
				func(p *pair) bool { return n > 0 || p.goDown() },
			}[r.IntN(7)]
			if !step(p) || !p.same() {
				t.Fatalf("the disk has %q, %d safe, down %t, Len %d, over %t, the model is %+v", p.d.Bytes(), p.d.Safe(), p.d.Down(), p.j.Len(), p.j.Over(), *p.m)
			}
		}
	}
}
