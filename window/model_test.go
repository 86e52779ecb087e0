package window

import (
	"maps"
	"math/rand/v2"
	"testing"
)

func chance() *rand.Rand { return rand.New(rand.NewPCG(1, 2)) }

// model is a window as the chapter's words have it: it keeps every number that it saw.
type model struct {
	greatest int
	saw      map[int]int // each has a 1
}

func newModel() *model { return &model{saw: map[int]int{}} }

func (m *model) see(l ...int) int {
	many := 0
	for _, n := range l {
		if m.seen(n) {
			continue
		}
		many++
		m.saw[n] = 1
		m.greatest = max(m.greatest, n)
	}
	return many
}

func (m *model) seen(n int) bool {
	return n < 1 || n > 1<<40 || n <= m.greatest-64 || m.saw[n] == 1
}

func (m *model) clear() { *m = *newModel() }

// step is numbers that are seen, or, with none, a Clear.
type step []int

// differ lets a window and a model take a step, and tells whether they answer otherwise or stand otherwise then, as far as they tell.
func differ(w *Window, m *model, s step) bool {
	if len(s) == 0 {
		w.Clear()
		m.clear()
	} else if w.See(s...) != m.see(s...) {
		return true
	}
	if w.Greatest() != m.greatest {
		return true
	}
	for n := m.greatest - 140; n <= m.greatest+140; n++ {
		if w.Seen(n) != m.seen(n) {
			return true
		}
	}
	return false
}

// P13.1: in all orders of up to five steps.
func TestAllOrders(t *testing.T) {
	all := []step{{1}, {2}, {63}, {64}, {65}, {66}, {128}, {129}, {5, 3, 5}, {0}, {1<<40 + 1, 7}, {1 << 40}, {1<<40 - 63, 1<<40 - 64}, {}}
	var path []step
	var try func(w Window, m model)
	try = func(w Window, m model) {
		if len(path) == 5 {
			return
		}
		for _, s := range all {
			path = append(path, s)
			x, y := w, model{m.greatest, maps.Clone(m.saw)}
			if differ(&x, &y, s) {
				t.Fatalf("behind the steps %v: the greatest %d, want %d", path, x.Greatest(), y.greatest)
			}
			try(x, y)
			path = path[:len(path)-1]
		}
	}
	try(Window{}, *newModel())
}

// P13.1: in long orders, of numbers that go on slowly and quickly, by one and by many, to and fro.
func TestLongOrders(t *testing.T) {
	r := chance()
	for run := range 60 {
		w, m := new(Window), newModel()
		far := []int{2, 20, 64, 65, 130, 1000}[run%6]
		for i := range 2000 {
			var s step
			for range 1 + r.IntN(4) {
				s = append(s, m.greatest-r.IntN(100)+r.IntN(far))
			}
			switch x := r.IntN(1000); {
			case x < 5:
				s = step{1 + r.IntN(1<<40)}
			case x < 10:
				s = step{}
			case x < 30:
				s = append(s, wrong()[r.IntN(len(wrong()))])
			}
			if differ(w, m, s) {
				t.Fatalf("the run %d, the step %d, %v: the greatest %d, want %d", run, i, s, w.Greatest(), m.greatest)
			}
		}
	}
}

// P13.2: over long runs, in which each number is handed in many times, early, late and very late, none is new twice.
func TestNewOnce(t *testing.T) {
	r := chance()
	for run := range 60 {
		w := new(Window)
		fresh := map[int]int{} // how often each was new
		late := 1 + run*3
		for front := 1; front < 1500; front++ {
			for range 8 {
				n := front - r.IntN(late) + r.IntN(3)
				seen := w.Seen(n)
				many := w.See(n)
				fresh[n] += many
				if fresh[n] > 1 || seen == (many == 1) || !w.Seen(n) {
					t.Fatalf("the run %d: %d was new %d times; Seen ahead of it: %v", run, n, fresh[n], seen)
				}
			}
		}
		for n := range fresh {
			fresh[n] += w.See(n, n)
			if fresh[n] > 1 {
				t.Fatalf("the run %d: %d was new %d times at the end", run, n, fresh[n])
			}
		}
	}
}

// P13.2: where each number comes once, twice or three times, in any order, but none once another one 64 above it came, each is new just once.
func TestEachIsNew(t *testing.T) {
	r := chance()
	for late := range 64 {
		w := new(Window)
		var under []int // what is under way, the least one first
		fresh := map[int]int{}
		back := 0 // how far one came behind the greatest
		for next := 1; next <= 1000 || len(under) > 0; {
			if next <= 1000 && (len(under) == 0 || next-under[0] <= late && r.IntN(3) > 0) {
				for range 1 + r.IntN(3) {
					under = append(under, next)
				}
				next++
				continue
			}
			i := r.IntN(len(under))
			n := under[i]
			under = append(under[:i], under[i+1:]...)
			fresh[n] += w.See(n)
			back = max(back, w.Greatest()-n)
		}
		for n := 1; n <= 1000; n++ {
			if fresh[n] != 1 {
				t.Fatalf("late by up to %d: %d was new %d times", late, n, fresh[n])
			}
		}
		if back > late || back < late*9/10 {
			t.Errorf("late by up to %d: none came later than %d behind the greatest", late, back)
		}
	}
}
