package cache

import (
	"cmp"
	"maps"
	"math/rand/v2"
	"slices"
	"testing"
)

func chance() *rand.Rand { return rand.New(rand.NewPCG(1, 2)) }

// memory is what a cache can do; the model below does the same by other means.
type memory interface {
	Put(l ...Entry) int
	Get(cell int) (Entry, bool)
	Peek(cell int) (Entry, bool)
	Stale(cell, version int) bool
	Drop(l ...int) int
	All() []Entry
	Clear()
}

// use is an entry, and how many uses there were up to its last one.
type use struct {
	Entry
	turn int
}

// model is a cache as the chapter's words have it: what is known of each cell, sorted when it is told.
type model struct {
	room, turn int
	known      map[int]use
}

func newModel(room int) *model { return &model{room: room, known: map[int]use{}} }

func (m *model) used(e Entry) {
	m.turn++
	m.known[e.Cell] = use{e, m.turn}
}

func (m *model) Put(l ...Entry) int {
	many := 0
	for _, e := range l {
		u, there := m.known[e.Cell]
		if there && u.Version > e.Version {
			continue
		}
		if !there && len(m.known) == m.room {
			delete(m.known, m.All()[0].Cell)
		}
		m.used(e)
		many++
	}
	return many
}

func (m *model) Get(cell int) (Entry, bool) {
	u, there := m.known[cell]
	if there {
		m.used(u.Entry)
	}
	return u.Entry, there
}

func (m *model) Peek(cell int) (Entry, bool) {
	u, there := m.known[cell]
	return u.Entry, there
}

func (m *model) Stale(cell, version int) bool {
	was := len(m.known)
	maps.DeleteFunc(m.known, func(c int, u use) bool { return c == cell && u.Version < version })
	return len(m.known) < was
}

func (m *model) Drop(l ...int) int {
	was := len(m.known)
	for _, cell := range l {
		delete(m.known, cell)
	}
	return was - len(m.known)
}

func (m *model) All() []Entry {
	var l []Entry
	for _, u := range slices.SortedFunc(maps.Values(m.known), func(a, b use) int { return cmp.Compare(a.turn, b.turn) }) {
		l = append(l, u.Entry)
	}
	return l
}

func (m *model) Clear() { clear(m.known) }

// told is what a call answered.
type told struct {
	n  int
	e  Entry
	ok bool
}

type call func(c memory) told

func puts(l ...Entry) call { return func(c memory) told { return told{n: c.Put(l...)} } }
func drops(l ...int) call  { return func(c memory) told { return told{n: c.Drop(l...)} } }
func stales(cell, version int) call {
	return func(c memory) told { return told{ok: c.Stale(cell, version)} }
}

func gets(cell int) call {
	return func(c memory) told {
		e, ok := c.Get(cell)
		return told{e: e, ok: ok}
	}
}

func peeks(cell int) call {
	return func(c memory) told {
		e, ok := c.Peek(cell)
		return told{e: e, ok: ok}
	}
}

func clears() call {
	return func(c memory) told {
		c.Clear()
		return told{}
	}
}

// calls is calls of every kind, of four cells.
func calls() []call {
	return []call{
		puts(entry(1, 1)), puts(entry(1, 2)), puts(Entry{Cell: 1, Version: 2, Value: 8, From: 9}),
		puts(entry(2, 1)), puts(entry(3, 1), entry(2, 2)), puts(entry(4, 0), entry(4, 3), entry(3, 0)),
		gets(1), gets(2), peeks(1),
		stales(1, 2), stales(2, 2),
		drops(2), drops(3, 1, 3),
		clears(),
	}
}

// differs tells whether a cache stands otherwise than a model, as far as it tells.
func differs(c *Cache, m *model) bool {
	if !slices.Equal(c.All(), m.All()) {
		return true
	}
	for cell := -1; cell < 40; cell++ {
		if peeks(cell)(c) != peeks(cell)(m) {
			return true
		}
	}
	return false
}

// copied is a cache and a model that stand as others do, and have nothing to do with them.
func copied(c *Cache, m *model) (*Cache, *model) {
	return &Cache{c.room, slices.Clone(c.entries)}, &model{m.room, m.turn, maps.Clone(m.known)}
}

// P17.1: in all orders of up to five calls, with room for one to four entries.
func TestAllOrders(t *testing.T) {
	all := calls()
	var path []int
	var try func(c *Cache, m *model)
	try = func(c *Cache, m *model) {
		if len(path) == 5 {
			return
		}
		for i, do := range all {
			path = append(path, i)
			x, y := copied(c, m)
			if got, want := do(x), do(y); got != want || !slices.Equal(x.All(), y.All()) {
				t.Fatalf("room %d, the calls %v: %v, want %v; %v, want %v", c.room, path, got, want, x.All(), y.All())
			}
			try(x, y)
			path = path[:len(path)-1]
		}
	}
	for room := 1; room <= 4; room++ {
		try(newCache(t, room), newModel(room))
	}
}

// anyEntry is some entry, of so many cells and versions.
func anyEntry(r *rand.Rand, cells, versions int) Entry {
	return Entry{r.IntN(cells), r.IntN(versions), r.IntN(100), r.IntN(17)}
}

// anyStep is some call that has to do with one entry, or, seldom, with all.
func anyStep(r *rand.Rand, cells, versions int) call {
	e := anyEntry(r, cells, versions)
	switch x := r.IntN(200); {
	case x < 80:
		return puts(e)
	case x < 120:
		return gets(e.Cell)
	case x < 150:
		return peeks(e.Cell)
	case x < 180:
		return stales(e.Cell, e.Version)
	case x < 199:
		return drops(e.Cell)
	}
	return clears()
}

// anyCall is some call, also of many entries.
func anyCall(r *rand.Rand, cells, versions int) call {
	some := func() Entry { return anyEntry(r, cells, versions) }
	switch x := r.IntN(100); {
	case x < 20:
		return puts(some(), some(), some())
	case x < 25:
		return drops(some().Cell, some().Cell, some().Cell)
	}
	return anyStep(r, cells, versions)
}

// P17.1: in long orders, with every room, with few cells and many, few versions and many.
func TestLongOrders(t *testing.T) {
	r := chance()
	for room := 1; room <= most; room++ {
		for _, cells := range []int{1, room, room + 1, 2 * room, 35} {
			for _, versions := range []int{1, 3, 1000} {
				c, m := newCache(t, room), newModel(room)
				for i := range 2000 {
					do := anyCall(r, cells, versions)
					if got, want := do(c), do(m); got != want || differs(c, m) {
						t.Fatalf("room %d, %d cells, the call %d: %v, want %v; %v, want %v", room, cells, i, got, want, c.All(), m.All())
					}
				}
			}
		}
	}
}

// versions is the version of each cell that is there.
func versions(c *Cache) map[int]int {
	l := map[int]int{}
	for _, e := range c.All() {
		l[e.Cell] = e.Version
	}
	return l
}

// P17.2: over long runs no version falls from one step to the next, as long as the entry is there; no cell is there twice, and never more than there is room for.
func TestNoVersionFalls(t *testing.T) {
	r := chance()
	for room := 1; room <= most; room++ {
		c := newCache(t, room)
		full, rose := 0, 0
		for range 20000 {
			was := versions(c)
			anyStep(r, room+3, 50)(c)
			is := versions(c)
			if len(c.All()) > room || len(is) != len(c.All()) {
				t.Fatalf("room %d: %v", room, c.All())
			}
			for cell, version := range is {
				if before, there := was[cell]; there && version < before {
					t.Fatalf("room %d: the version of %d fell from %d to %d", room, cell, before, version)
				} else if there && version > before {
					rose++
				}
			}
			if len(is) == room {
				full++
			}
		}
		if full < 100 || rose < 100 {
			t.Errorf("room %d: it was full %d times, a version rose %d times", room, full, rose)
		}
	}
}

// P17.2: over long runs what was used last, by a Put that takes it or by a Get, is there, and stands last; of what was used, there are as many as there is room for, the latest ones.
func TestLatestUsesAreThere(t *testing.T) {
	r := chance()
	for room := 1; room <= most; room++ {
		c := newCache(t, room)
		var uses []int // cells, each once, the latest use last
		for i := range 5000 {
			cell := r.IntN(room + 1 + i%7)
			if r.IntN(2) == 0 {
				if _, there := c.Get(cell); !there {
					continue
				}
			} else if c.Put(Entry{Cell: cell, Version: i / 3}) != 1 {
				t.Fatalf("room %d: a Put of a version that doesn't fall took nothing", room)
			}
			uses = append(slices.DeleteFunc(uses, func(x int) bool { return x == cell }), cell)
			want := uses[max(0, len(uses)-room):]
			if got := cellsOf(c); !slices.Equal(got, want) {
				t.Fatalf("room %d, behind the use of %d: %v, want %v", room, cell, got, want)
			}
		}
	}
}

// Rule 5: the same calls lead to the same cache, whatever was in it ahead of them.
func TestSameCallsSameCache(t *testing.T) {
	for seed := range uint64(20) {
		a, b := newCache(t, 8), newCache(t, 8)
		for i := range 30 {
			b.Put(entry(i, 100))
		}
		b.Clear()
		r, s := rand.New(rand.NewPCG(seed, 0)), rand.New(rand.NewPCG(seed, 0))
		for i := range 1000 {
			if x, y := anyCall(r, 12, 9)(a), anyCall(s, 12, 9)(b); x != y || !slices.Equal(a.All(), b.All()) {
				t.Fatalf("the seed %d, the call %d: %v and %v; %v and %v", seed, i, x, y, a.All(), b.All())
			}
		}
	}
}
