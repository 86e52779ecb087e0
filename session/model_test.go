package session

import (
	"maps"
	"math/rand/v2"
	"slices"
	"strconv"
	"testing"

	"remuda/api"
)

// peers is what a session can do; the model below does the same by other means.
type peers interface {
	Send(to int, l ...string) ([]Out, api.Errno)
	Take(from int, e Envelope) (string, []Out, api.Errno)
	Tick() []Out
	Held(to int) int
	Known(node int) int
}

// kept is a payload that is held, and the time from which its delays count.
type kept struct {
	payload string
	since   int
}

// other is what the model knows of another node: every number that came, and what is held, by numbers.
type other struct {
	known, next, greatest int
	came                  map[int]int // each has a 1
	held                  map[int]kept
}

// model is a session as the chapter's words have it, with a time that tells when each payload goes out again.
type model struct {
	epoch, now int
	others     map[int]*other
}

func newModel(node, nodes, epoch int) *model {
	m := &model{epoch: epoch, others: map[int]*other{}}
	for n := 1; n <= nodes; n++ {
		if n != node {
			m.others[n] = &other{next: 1, came: map[int]int{}, held: map[int]kept{}}
		}
	}
	return m
}

// out is the Data of numbers that are held.
func (m *model) out(to int, l ...int) []Out {
	var out []Out
	for _, seq := range l {
		out = append(out, Out{to, Envelope{1, m.epoch, m.others[to].known, seq, m.others[to].held[seq].payload}})
	}
	return out
}

// numbers is the numbers that are held, those alone of which ok is true.
func (o *other) numbers(ok func(kept) bool) []int {
	var l []int
	for seq, k := range o.held {
		if ok(k) {
			l = append(l, seq)
		}
	}
	slices.Sort(l)
	return l
}

func (m *model) Send(to int, l ...string) ([]Out, api.Errno) {
	o := m.others[to]
	if o == nil || slices.ContainsFunc(l, func(s string) bool { return len(s) > 4032 }) {
		return nil, api.ErrArg
	}
	was, first := maps.Clone(o.held), o.next
	for _, payload := range l {
		o.held[o.next] = kept{payload, m.now}
		o.next++
	}
	all := o.numbers(func(kept) bool { return true })
	if len(all) > 32 || len(all) > 0 && all[len(all)-1]-all[0] > 63 {
		o.held, o.next = was, first
		return nil, api.ErrFull
	}
	return m.out(to, inOrder(first, o.next-1)...), api.OK
}

func (m *model) Take(from int, e Envelope) (string, []Out, api.Errno) {
	o := m.others[from]
	isData, isAck := e.Kind == 1 && e.Seq > 0 && len(e.Payload) <= 4032, e.Kind == 2 && e.Seq >= 0 && e.Payload == ""
	if o == nil || !isData && !isAck || e.Epoch < 1 || e.Peer < 0 || max(e.Epoch, e.Peer, e.Seq) > 1<<40 {
		return "", nil, api.ErrArg
	}
	if e.Epoch < o.known {
		return "", nil, api.ErrStale
	}
	var out []Out
	if e.Epoch > o.known {
		elder := o.known
		o.known, o.greatest, o.came = e.Epoch, 0, map[int]int{}
		if elder != 0 {
			for seq, k := range o.held {
				o.held[seq] = kept{k.payload, m.now}
			}
			out = m.out(from, o.numbers(func(kept) bool { return true })...)
		}
	}
	ack := Out{from, Envelope{2, m.epoch, o.known, e.Seq, ""}}
	if e.Peer != 0 && e.Peer != m.epoch {
		ack.E.Seq = 0
		return "", append(out, ack), api.ErrStale
	}
	if isAck {
		if e.Peer != 0 {
			delete(o.held, e.Seq)
		}
		return "", out, api.OK
	}
	if o.came[e.Seq] == 1 || e.Seq <= o.greatest-64 {
		return "", append(out, ack), api.ErrThere
	}
	o.came[e.Seq] = 1
	o.greatest = max(o.greatest, e.Seq)
	return e.Payload, append(out, ack), api.OK
}

func (m *model) Tick() []Out {
	m.now++
	var out []Out
	for _, n := range slices.Sorted(maps.Keys(m.others)) {
		due := func(k kept) bool { // 4, 12, 28, and each 16 further on
			age := m.now - k.since
			return age == 4 || age >= 12 && age%16 == 12
		}
		out = append(out, m.out(n, m.others[n].numbers(due)...)...)
	}
	return out
}

func (m *model) Held(to int) int {
	if m.others[to] == nil {
		return 0
	}
	return len(m.others[to].held)
}

func (m *model) Known(node int) int {
	if m.others[node] == nil {
		return 0
	}
	return m.others[node].known
}

// told is what a call answered.
type told struct {
	payload string
	out     []Out
	e       api.Errno
}

func (a told) same(b told) bool {
	return a.payload == b.payload && a.e == b.e && slices.Equal(a.out, b.out)
}

type call func(p peers) told

func sends(to int, l ...string) call {
	return func(p peers) told {
		out, e := p.Send(to, l...)
		return told{out: out, e: e}
	}
}

func takes(from int, e Envelope) call {
	return func(p peers) told {
		payload, out, err := p.Take(from, e)
		return told{payload, out, err}
	}
}

func ticks(many int) call {
	return func(p peers) told {
		var out []Out
		for range many {
			out = append(out, p.Tick()...)
		}
		return told{out: out}
	}
}

// differs tells whether a session stands otherwise than a model, as far as it tells.
func differs(s *Session, m *model) bool {
	for n := range 18 {
		if s.Held(n) != m.Held(n) || s.Known(n) != m.Known(n) {
			return true
		}
	}
	return false
}

// calls is calls of every kind, of a session of node 2 among three, with the epoch 5.
func calls() []call {
	return []call{
		sends(1, "a"), sends(1, "b", "c"), sends(3, "d"), sends(2, "e"), sends(1, upTo(31)...),
		takes(1, Envelope{Data, 7, 0, 1, "x"}),
		takes(1, Envelope{Data, 7, 5, 2, "y"}),
		takes(1, Envelope{Data, 8, 5, 1, "z"}),
		takes(1, Envelope{Data, 8, 4, 65, "v"}),
		takes(1, Envelope{Data, 7, 5, 66, "w"}),
		takes(1, Envelope{Ack, 7, 5, 1, ""}),
		takes(1, Envelope{Ack, 7, 0, 2, ""}),
		takes(1, Envelope{Ack, 8, 5, 2, ""}),
		takes(1, Envelope{Ack, 8, 6, 1, ""}),
		takes(3, Envelope{Data, 1, 5, 1, "u"}),
		takes(3, Envelope{Ack, 2, 5, 1, ""}),
		takes(3, Envelope{Ack, 3, 5, 1, "wrong"}),
		ticks(1), ticks(4), ticks(9),
	}
}

// checkOrders makes all lists of so many calls at a session and at its model, and tells whether both answer the same and stand the same then. Behind each list time goes on, so that what is held is seen.
func checkOrders(t *testing.T, long int) {
	t.Helper()
	l := calls()
	all := 1
	for range long {
		all *= len(l)
	}
	for i := range all {
		s, m := fresh(t, 2, 3, 5), newModel(2, 3, 5)
		for j, rest := 0, i; j < long; j, rest = j+1, rest/len(l) {
			c := l[rest%len(l)]
			if got, want := c(s), c(m); !got.same(want) || differs(s, m) {
				t.Fatalf("the list %d, the call %d of it (%d): %s, want %s", i, j, rest%len(l), brief(got), brief(want))
			}
		}
		if long < 4 {
			for j := range 50 {
				if got, want := s.Tick(), m.Tick(); !slices.Equal(got, want) {
					t.Fatalf("the list %d, %d ticks behind it: %s, want %s", i, j, brief(got), brief(want))
				}
			}
		}
	}
}

// P14.1: in every order, of up to four calls, the session does what its model does.
func TestEveryOrder(t *testing.T) {
	for long := range 5 {
		checkOrders(t, long)
	}
}

// anyOf is one of a list.
func anyOf[T any](r *rand.Rand, l ...T) T { return l[r.IntN(len(l))] }

// anyEnvelope is mostly one that a peer might put out: of epochs that slowly go on, and numbers about those that were given.
func anyEnvelope(r *rand.Rand, m *model, from, step int) Envelope {
	e := Envelope{Data + r.IntN(2), 1 + m.Known(from), m.epoch, 1, ""}
	if m.Known(from) > 0 && r.IntN(40) > 0 {
		e.Epoch = max(1, m.Known(from)-r.IntN(20)/19)
	}
	switch r.IntN(20) {
	case 0:
		e.Peer = 0
	case 1:
		e.Peer = m.epoch + r.IntN(3) - 1
	}
	if o := m.others[from]; o != nil && e.Kind == Data {
		e.Seq, e.Payload = max(1, o.greatest-70+r.IntN(75)), strconv.Itoa(step)
	} else if o != nil && len(o.held) > 0 {
		l := o.numbers(func(kept) bool { return true })
		e.Seq = l[r.IntN(len(l))] + r.IntN(10)/9
		if r.IntN(3) > 0 && len(l) > 1 { // so that the first one stays for long
			e.Seq = l[1+r.IntN(len(l)-1)]
		}
	}
	if r.IntN(60) == 0 {
		w := wrongs()
		return w[r.IntN(len(w))]
	}
	return e
}

// P14.1: in long orders, among each count of nodes.
func TestLongOrders(t *testing.T) {
	r := chance()
	full, stale, anew := 0, 0, 0
	for run := range 160 {
		nodes := 2 + run%15
		self, epoch := 1+r.IntN(nodes), anyOf(r, 1, 2, 100, 1<<40)
		s, m := fresh(t, self, nodes, epoch), newModel(self, nodes, epoch)
		few := 1 + r.IntN(nodes)
		for i := range 1500 {
			node := 1 + r.IntN(few+1)
			if r.IntN(60) == 0 {
				node = anyOf(r, 0, -1, self, nodes+1, 17)
			}
			c := ticks(1)
			switch x := r.IntN(20); {
			case x < 6:
				c = sends(node, upTo(r.IntN(4)+r.IntN(30)*(r.IntN(30)/29))...)
			case x < 17:
				c = takes(node, anyEnvelope(r, m, node, i))
			}
			got, want := c(s), c(m)
			if !got.same(want) || differs(s, m) {
				t.Fatalf("the run %d, the call %d: %s, want %s", run, i, brief(got), brief(want))
			}
			switch {
			case got.e == api.ErrFull:
				full++
			case got.e == api.ErrStale:
				stale++
			case len(got.out) > 10:
				anew++
			}
		}
	}
	if full < 1000 || stale < 1000 || anew < 1000 {
		t.Error("too few of them were full, stale, anew:", full, stale, anew)
	}
}

// Rule 5: the same calls lead to the same session.
func TestSameCallsSameSession(t *testing.T) {
	for seed := range 20 {
		a, b := fresh(t, 3, 16, 4), fresh(t, 3, 16, 4)
		for i := range 1000 {
			to := 1 + i*7%16
			l := []call{
				sends(to, upTo(1+i*(seed+3)%5)...),
				takes(to, Envelope{Ack, 1 + i/(100+seed), 4, i % 37, ""}),
				takes(1+i*11%16, Envelope{Data, 1 + i/200, 4 - i*5%(seed+20)/19, 1 + i, "x"}),
				ticks(i % 3),
			}
			for j, c := range l {
				if x, y := c(a), c(b); !x.same(y) {
					t.Fatalf("the seed %d, the step %d, the call %d: %s and %s", seed, i, j, brief(x), brief(y))
				}
			}
		}
	}
}
