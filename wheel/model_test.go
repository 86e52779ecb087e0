package wheel

import (
	"cmp"
	"maps"
	"math/rand/v2"
	"slices"
	"testing"

	"remuda/api"
)

func chance() *rand.Rand { return rand.New(rand.NewPCG(1, 2)) }

// clock is what a wheel can do; the model below does the same by other means.
type clock interface {
	Now() int
	Set(k Key, after int) api.Errno
	Stop(l ...Key) int
	Due(k Key) (int, bool)
	Tick() []Key
	Keys() []Key
	Clear()
}

// set is when a timer is due, and how many sets there were up to it.
type set struct{ due, turn int }

// model is a wheel as the chapter's words have it: what was set of each key, sorted when it is told.
type model struct {
	now, turn int
	timers    map[Key]set
}

func newModel() *model { return &model{timers: map[Key]set{}} }

func (m *model) Now() int { return m.now }

func (m *model) Set(k Key, after int) api.Errno {
	if after < 1 || after > 1000 {
		return api.ErrArg
	}
	others := len(m.timers)
	if _, ok := m.timers[k]; ok {
		others--
	}
	if others >= 256 {
		return api.ErrFull
	}
	m.turn++
	m.timers[k] = set{m.now + after, m.turn}
	return api.OK
}

func (m *model) Stop(l ...Key) int {
	was := len(m.timers)
	for _, k := range l {
		delete(m.timers, k)
	}
	return was - len(m.timers)
}

func (m *model) Due(k Key) (int, bool) {
	s, ok := m.timers[k]
	return s.due, ok
}

func (m *model) Tick() []Key {
	m.now++
	var l []Key
	for _, k := range m.Keys() {
		if m.timers[k].due == m.now {
			l = append(l, k)
			delete(m.timers, k)
		}
	}
	return l
}

func (m *model) Keys() []Key {
	return slices.SortedFunc(maps.Keys(m.timers), func(a, b Key) int {
		x, y := m.timers[a], m.timers[b]
		return cmp.Or(cmp.Compare(x.due, y.due), cmp.Compare(x.turn, y.turn))
	})
}

func (m *model) Clear() { clear(m.timers) }

// told is what a call answered.
type told struct {
	n  int
	e  api.Errno
	ok bool
	l  []Key
}

func (a told) same(b told) bool {
	return a.n == b.n && a.e == b.e && a.ok == b.ok && slices.Equal(a.l, b.l)
}

type call func(c clock) told

func sets(k Key, after int) call { return func(c clock) told { return told{e: c.Set(k, after)} } }
func stops(l ...Key) call        { return func(c clock) told { return told{n: c.Stop(l...)} } }
func ticks() call                { return func(c clock) told { return told{l: c.Tick()} } }

func dues(k Key) call {
	return func(c clock) told {
		n, ok := c.Due(k)
		return told{n: n, ok: ok}
	}
}

func clears() call {
	return func(c clock) told {
		c.Clear()
		return told{}
	}
}

// calls is calls of every kind, of three keys.
func calls() []call {
	k := keyed(0, 1, 2)
	return []call{
		sets(k[0], 1), sets(k[0], 2), sets(k[1], 1), sets(k[1], 2), sets(k[1], 3), sets(k[2], 2),
		sets(k[0], 0), sets(k[2], 1001),
		stops(k[0]), stops(k[2], k[1], k[2]),
		dues(k[1]),
		ticks(), clears(),
	}
}

// differs tells whether a wheel stands otherwise than a model, as far as it tells.
func differs(w *Wheel, m *model) bool {
	l := m.Keys()
	if w.Now() != m.now || !slices.Equal(w.Keys(), l) {
		return true
	}
	return slices.ContainsFunc(l, func(k Key) bool { return !dues(k)(w).same(dues(k)(m)) })
}

// copied is a wheel and a model that stand as others do, and have nothing to do with them.
func copied(w *Wheel, m *model) (*Wheel, *model) {
	return &Wheel{w.now, slices.Clone(w.timers)}, &model{m.now, m.turn, maps.Clone(m.timers)}
}

// P12.1: in all orders of up to five calls.
func TestAllOrders(t *testing.T) {
	all := calls()
	var path []int
	var try func(w *Wheel, m *model)
	try = func(w *Wheel, m *model) {
		if len(path) == 5 {
			return
		}
		for i, c := range all {
			path = append(path, i)
			x, y := copied(w, m)
			if got, want := c(x), c(y); !got.same(want) || differs(x, y) {
				t.Fatalf("the calls %v: %v, want %v; %v, want %v", path, got, want, x.Keys(), y.Keys())
			}
			try(x, y)
			path = path[:len(path)-1]
		}
	}
	try(New(), newModel())
}

// P12.1: in long orders, with few timers and with all that may be.
func TestLongOrders(t *testing.T) {
	r := chance()
	for run := range 60 {
		w, m := New(), newModel()
		names := 4 << (run % 7)
		most := []int{3, 30, 1000}[run%3]
		l := upTo(names + names/4)
		for i := range 4000 {
			k := func() Key { return l[r.IntN(len(l))] }
			c := sets(k(), r.IntN(most+1))
			switch x := r.IntN(100); {
			case x < 2:
				c = sets(k(), wrongAfter()[r.IntN(len(wrongAfter()))])
			case x < 6:
				c = stops(k(), k(), k())
			case x < 12:
				c = dues(k())
			case x < 12+400/names:
				c = ticks()
			case x == 99 && r.IntN(40) == 0:
				c = clears()
			}
			if got, want := c(w), c(m); !got.same(want) || i%7 == 0 && differs(w, m) {
				t.Fatalf("the run %d, the call %d: %s, want %s; %s, want %s", run, i, brief(got), brief(want), brief(w.Keys()), brief(m.Keys()))
			}
		}
	}
}

// P12.2: over long runs, each timer that is set, and neither set anew nor stopped, is told just once, at its time, and nothing else is.
func TestToldOnce(t *testing.T) {
	r := chance()
	for run := range 40 {
		w := New()
		at := map[int][]Key{} // by times: what is to be told then
		forget := func(k Key) {
			for time, l := range at {
				at[time] = slices.DeleteFunc(l, func(x Key) bool { return x == k })
			}
		}
		l := upTo(10 + 10*(run%30))
		many := 0
		tick := func() {
			got := w.Tick()
			if !slices.Equal(got, at[w.Now()]) {
				t.Fatalf("the run %d, at %d: %s, want %s", run, w.Now(), brief(got), brief(at[w.Now()]))
			}
			delete(at, w.Now())
			many += len(got)
		}
		for range 4000 {
			k := l[r.IntN(len(l))]
			switch x := r.IntN(10); {
			case x < 5:
				after := 1 + r.IntN(1+run*25)
				if w.Set(k, after) == api.OK {
					forget(k)
					at[w.Now()+after] = append(at[w.Now()+after], k)
				}
			case x < 6:
				w.Stop(k)
				forget(k)
			default:
				tick()
			}
		}
		for range 1000 {
			tick()
		}
		if left := slices.Concat(slices.Collect(maps.Values(at))...); len(left) != 0 || len(w.Keys()) != 0 || many == 0 {
			t.Errorf("the run %d: %d were told, not so %s, there are %s", run, many, brief(left), brief(w.Keys()))
		}
	}
}

// Rule 5: the same calls lead to the same wheel, whatever was in it ahead of them.
func TestSameCallsSameWheel(t *testing.T) {
	l := upTo(300)
	for seed := range 20 {
		a, b := New(), New()
		setAll(t, b, 1000, l[seed:seed+256]...)
		b.Stop(l[:100]...)
		b.Clear()
		for i := range 1000 {
			for _, w := range []*Wheel{a, b} {
				w.Set(l[i*7%300], 1+i*(seed+3)%90)
				w.Set(l[i*11%290], 1+i*5%(seed+1))
				w.Stop(l[i*13%280])
				if i%3 == 0 {
					w.Tick()
				}
			}
			if a.Now() != b.Now() || !slices.Equal(a.Keys(), b.Keys()) {
				t.Fatalf("the seed %d, behind the step %d: %s and %s", seed, i, brief(a.Keys()), brief(b.Keys()))
			}
		}
	}
}
