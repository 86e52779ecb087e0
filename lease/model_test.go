package lease

import (
	"math/rand/v2"
	"slices"
	"testing"

	"remuda/api"
)

func chance() *rand.Rand { return rand.New(rand.NewPCG(1, 2)) }

// leases is what a table can do; the model below does the same by other means.
type leases interface {
	Hold(who api.Tid, until int, l ...int) api.Errno
	Free(who api.Tid) []int
	Expire(now int) []int
	Of(cell int) (Hold, bool)
	May(who api.Tid, l ...int) bool
	Held() int
}

// grant is that somebody was told that it holds a cell, till some time.
type grant struct {
	cell int
	Hold
}

// model is a table as the chapter's words have it: every grant that wasn't ended, of which a cell may have many.
type model struct {
	cells  int
	grants []grant
}

func (m *model) none(l ...int) bool {
	return slices.ContainsFunc(l, func(cell int) bool { return cell < 0 || cell >= m.cells })
}

func (m *model) Of(cell int) (Hold, bool) {
	var h Hold
	found := false
	for _, g := range m.grants {
		if g.cell == cell && (!found || g.Until > h.Until) {
			h, found = g.Hold, true
		}
	}
	return h, found
}

func (m *model) May(who api.Tid, l ...int) bool {
	others := slices.ContainsFunc(m.grants, func(g grant) bool { return g.Tid != who && slices.Contains(l, g.cell) })
	return !m.none(l...) && !others
}

func (m *model) Hold(who api.Tid, until int, l ...int) api.Errno {
	if m.none(l...) {
		return api.ErrArg
	}
	if !m.May(who, l...) {
		return api.ErrLocked
	}
	for _, cell := range l {
		m.grants = append(m.grants, grant{cell, Hold{who, until}})
	}
	return api.OK
}

// end ends all grants of cells: these, rising.
func (m *model) end(l []int) []int {
	slices.Sort(l)
	l = slices.Compact(l)
	m.grants = slices.DeleteFunc(m.grants, func(g grant) bool { return slices.Contains(l, g.cell) })
	return l
}

func (m *model) Free(who api.Tid) []int {
	var l []int
	for _, g := range m.grants {
		if g.Tid == who {
			l = append(l, g.cell)
		}
	}
	return m.end(l)
}

func (m *model) Expire(now int) []int {
	var l []int
	for _, g := range m.grants {
		if h, _ := m.Of(g.cell); h.Until <= now {
			l = append(l, g.cell)
		}
	}
	return m.end(l)
}

func (m *model) Held() int {
	cells := map[int]int{}
	for _, g := range m.grants {
		cells[g.cell]++
	}
	return len(cells)
}

// told is what a call answered.
type told struct {
	e  api.Errno
	l  []int
	ok bool
}

func (a told) same(b told) bool { return a.e == b.e && slices.Equal(a.l, b.l) && a.ok == b.ok }

type call func(x leases) told

func holds(who api.Tid, until int, l ...int) call {
	return func(x leases) told { return told{e: x.Hold(who, until, l...)} }
}
func frees(who api.Tid) call { return func(x leases) told { return told{l: x.Free(who)} } }
func expires(now int) call   { return func(x leases) told { return told{l: x.Expire(now)} } }
func mays(who api.Tid, l ...int) call {
	return func(x leases) told { return told{ok: x.May(who, l...)} }
}

// calls is calls of every kind, of three names and three cells.
func calls() []call {
	a, b, c := name(0), name(1), name(2)
	return []call{
		holds(a, 1, 0), holds(a, 3, 0, 1), holds(a, 2, 2, 1), holds(b, 2, 0), holds(b, 1, 1, 2, 1), holds(c, 3, 2),
		holds(a, 9, 1, 3), holds(b, 9, -1),
		frees(a), frees(b), frees(c),
		expires(1), expires(2),
		mays(b, 0, 1, 2),
	}
}

// differs tells whether a table stands otherwise than a model, as far as it tells.
func differs(x *Table, m *model) bool {
	if x.Held() != m.Held() {
		return true
	}
	for cell := -1; cell <= m.cells; cell++ {
		h, ok := x.Of(cell)
		if g, held := m.Of(cell); g != h || held != ok {
			return true
		}
	}
	return false
}

// copied is a table and a model that stand as others do, and have nothing to do with them.
func copied(x *Table, m *model) (*Table, *model) {
	return &Table{slices.Clone(x.slots)}, &model{m.cells, slices.Clone(m.grants)}
}

// P18.1: in all orders of up to five calls.
func TestAllOrders(t *testing.T) {
	all := calls()
	var path []int
	var try func(x *Table, m *model)
	try = func(x *Table, m *model) {
		if len(path) == 5 {
			return
		}
		for i, do := range all {
			path = append(path, i)
			y, n := copied(x, m)
			if got, want := do(y), do(n); !got.same(want) || differs(y, n) {
				t.Fatalf("the calls %v: %v, want %v; %v, want %v", path, got, want, y.slots, n.grants)
			}
			try(y, n)
			path = path[:len(path)-1]
		}
	}
	try(newTable(t, 3), &model{cells: 3})
}

// anyCells is up to three cells, of which one may be none.
func anyCells(r *rand.Rand, cells int) []int {
	var l []int
	for range r.IntN(4) {
		l = append(l, r.IntN(cells))
	}
	if r.IntN(20) == 0 {
		l = append(l, []int{-1, cells}[r.IntN(2)])
	}
	return l
}

// anyCall is some call at some time, seldom at an earlier one.
func anyCall(r *rand.Rand, cells, names, now int) call {
	who, until := name(r.IntN(names)), now+r.IntN(12)-2
	switch x := r.IntN(100); {
	case x < 60:
		return holds(who, until, anyCells(r, cells)...)
	case x < 70:
		return mays(who, anyCells(r, cells)...)
	case x < 80:
		return frees(who)
	case x < 97:
		return expires(now)
	}
	return expires(until)
}

// P18.1: in long orders, with every count of cells, few names and many.
func TestLongOrders(t *testing.T) {
	r := chance()
	for cells := 1; cells <= most; cells++ {
		for _, names := range []int{1, 2, 5, 30} {
			x, m := newTable(t, cells), &model{cells: cells}
			for i := range 3000 {
				do := anyCall(r, cells, names, i/4)
				if got, want := do(x), do(m); !got.same(want) || differs(x, m) {
					t.Fatalf("%d cells, %d names, the call %d: %v, want %v; %v, want %v", cells, names, i, got, want, x.slots, m.grants)
				}
			}
		}
	}
}

// holders is who holds each cell that is held, asked by May alone.
func holders(t *testing.T, x *Table, cells, names int) map[int]int {
	t.Helper()
	l := map[int]int{}
	for cell := range cells {
		var may []int
		for i := range names {
			if x.May(name(i), cell) {
				may = append(may, i)
			}
		}
		switch len(may) {
		case names:
		case 1:
			l[cell] = may[0]
		default:
			t.Fatalf("of cell %d, of %d names these may hold it: %v", cell, names, may)
		}
	}
	return l
}

// holding is who holds each cell that is held, and till when.
type holding struct {
	who  map[int]int
	till []Hold
}

func seen(t *testing.T, x *Table, cells, names int) holding {
	t.Helper()
	return holding{holders(t, x, cells, names), shown(x, cells)}
}

// anyStep is a step of some kind: 0 a Free, 1 an Expire, 2 a Hold: what it told as ended, and which cells must end by it.
func anyStep(r *rand.Rand, x *Table, was holding, names, now int) (kind int, ended []int, ends func(cell int) bool) {
	who := r.IntN(names)
	switch kind = min(r.IntN(4), 2); kind {
	case 0:
		return kind, x.Free(name(who)), func(cell int) bool { return was.who[cell] == who }
	case 1:
		return kind, x.Expire(now), func(cell int) bool { return was.till[cell].Until <= now }
	}
	x.Hold(name(who), now+r.IntN(12), anyCells(r, len(was.till))...)
	return kind, nil, func(int) bool { return false }
}

// P18.2: over long runs, a cell is held by one alone; it stays with whoever holds it, and its time doesn't fall, but for a Free of that one, and an Expire of its time, which tell it.
func TestHeldTillItsEnd(t *testing.T) {
	const names = 4
	r := chance()
	for cells := 1; cells <= most; cells++ {
		x := newTable(t, cells)
		var over, kept [3]int // by kinds of steps
		for i := range 4000 {
			was := seen(t, x, cells, names)
			kind, ended, ends := anyStep(r, x, was, names, i/4+r.IntN(3)-1)
			is := seen(t, x, cells, names)
			for cell, holder := range was.who {
				after, held := is.who[cell]
				if ends(cell) == held || held == slices.Contains(ended, cell) {
					t.Fatalf("%d cells, step %d of kind %d: the cell %d was held by %v, and is held: %v; told as ended are %v", cells, i, kind, cell, was.till[cell], held, ended)
				}
				if held && (after != holder || is.till[cell].Until < was.till[cell].Until) {
					t.Fatalf("%d cells, step %d of kind %d: the cell %d was held by %v, and is by %v", cells, i, kind, cell, was.till[cell], is.till[cell])
				}
				if held {
					kept[kind]++
				} else {
					over[kind]++
				}
			}
		}
		if min(over[0], over[1]) < 20 || over[2] != 0 || min(kept[0], kept[1], kept[2]) < 100 {
			t.Errorf("%d cells: by kinds of steps %v holds ended, %v were kept", cells, over, kept)
		}
	}
}

// P18.2: when the time goes on tick by tick, whoever holds cells does just till then, also while others ask for them at each tick.
func TestTickByTick(t *testing.T) {
	for until := 1; until <= 12; until++ {
		x := newTable(t, 4)
		checkHold(t, x, api.OK, name(0), until, 2, 0)
		for now := range until {
			checkExpire(t, x, now)
			checkHold(t, x, api.ErrLocked, name(1), now+6, 3, 2)
			checkHold(t, x, api.ErrLocked, name(2), now+6, 0)
			checkHeld(t, x, 4, map[int]Hold{0: {name(0), until}, 2: {name(0), until}})
		}
		checkExpire(t, x, until, 0, 2)
		checkHold(t, x, api.OK, name(1), until+6, 3, 2)
		checkHeld(t, x, 4, map[int]Hold{2: {name(1), until + 6}, 3: {name(1), until + 6}})
	}
}

// Rule 5: the same calls lead to the same table, whatever was held ahead of them.
func TestSameCallsSameTable(t *testing.T) {
	for seed := range uint64(20) {
		x, y := newTable(t, 8), newTable(t, 8)
		checkHold(t, y, api.OK, name(9), 1000, upTo(8)...)
		checkFree(t, y, name(9), upTo(8)...)
		r, s := rand.New(rand.NewPCG(seed, 0)), rand.New(rand.NewPCG(seed, 0))
		for i := range 1000 {
			a, b := anyCall(r, 8, 5, i/4)(x), anyCall(s, 8, 5, i/4)(y)
			if !a.same(b) || !slices.Equal(shown(x, 8), shown(y, 8)) || x.Held() != y.Held() {
				t.Fatalf("the seed %d, the call %d: %v and %v; %v and %v", seed, i, a, b, shown(x, 8), shown(y, 8))
			}
		}
	}
}
