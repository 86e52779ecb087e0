package net

import (
	"fmt"
	"math"
	"math/rand/v2"
	"slices"
	"strconv"
	"strings"
	"testing"
	"unsafe"

	"remuda/api"
)

func chance() *rand.Rand { return rand.New(rand.NewPCG(1, 2)) }

// fresh is a net among nodes.
func fresh(t *testing.T, nodes int) *Net {
	t.Helper()
	n, e := New(nodes)
	if n == nil || e != api.OK {
		t.Fatalf("New(%d): %d", nodes, e)
	}
	return n
}

// named is a packet from 1 to 2 of each name, of which its bytes are made.
func named(names ...string) []Packet {
	l := make([]Packet, len(names))
	for i, s := range names {
		l[i] = Packet{From: 1, To: 2, Bytes: s}
	}
	return l
}

// with is a net among three nodes with these packets under way.
func with(t *testing.T, l ...Packet) *Net {
	t.Helper()
	n := fresh(t, 3)
	checkLost(t, n, 0, l...)
	checkAll(t, n, l...)
	return n
}

// numbered is so many packets, no two the same.
func numbered(many int) []Packet {
	l := make([]Packet, many)
	for i := range l {
		l[i] = Packet{From: 1 + i%3, To: 1 + (i+1+i/3%2)%3, Bytes: strconv.Itoa(i)}
	}
	return l
}

// brief is the beginning of what is to be told.
func brief(v any) string {
	s := fmt.Sprint(v)
	return s[:min(len(s), 300)]
}

func checkError(t *testing.T, what string, got, want api.Errno) {
	t.Helper()
	if got != want {
		t.Errorf("%s: %d, want %d", what, got, want)
	}
}

// checkAll tells whether just these packets are under way, in that order.
func checkAll(t *testing.T, n *Net, want ...Packet) {
	t.Helper()
	if got := n.All(); !slices.Equal(got, want) || n.Len() != len(want) {
		t.Errorf("under way are %s, Len %d; want %s", brief(got), n.Len(), brief(want))
	}
}

// checkLost sends packets, and tells whether so many were lost.
func checkLost(t *testing.T, n *Net, want int, l ...Packet) {
	t.Helper()
	if got := n.Send(l...); got != want {
		t.Errorf("Send of %s: %d lost, want %d", brief(l), got, want)
	}
}

// checkTake takes a packet, and tells whether it is that one.
func checkTake(t *testing.T, n *Net, i int, want Packet) {
	t.Helper()
	if got, e := n.Take(i); got != want || e != api.OK {
		t.Errorf("Take(%d) = %s, %d, want %s", i, brief(got), e, brief(want))
	}
}

// checkWay tells whether a way is whole, or isn't, by sending a packet from either side; what was under way is so behind it.
func checkWay(t *testing.T, n *Net, a, b int, whole bool) {
	t.Helper()
	before := n.All()
	for _, p := range []Packet{{From: a, To: b, Bytes: "there"}, {From: b, To: a, Bytes: "back"}} {
		if !whole {
			checkLost(t, n, 1, p)
			checkAll(t, n, before...)
			continue
		}
		checkLost(t, n, 0, p)
		checkTake(t, n, n.Len()-1, p)
	}
}

// checkWays tells whether all ways are whole but those of the list.
func checkWays(t *testing.T, n *Net, nodes int, cut ...[2]int) {
	t.Helper()
	for a := 1; a <= nodes; a++ {
		for b := a + 1; b <= nodes; b++ {
			checkWay(t, n, a, b, !slices.Contains(cut, [2]int{a, b}))
		}
	}
}

// noPlaces is places at which no packet of many stands.
func noPlaces(many int) []int {
	return []int{-1, -2, many, many + 1, 255, 256, 257, 1 << 32, -1 << 32, math.MinInt, math.MaxInt}
}

// noWays is pairs of nodes that have no way in a net of so many.
func noWays(nodes int) [][2]int {
	l := [][2]int{{0, 0}, {-1, -1}, {nodes + 1, nodes + 1}, {0, nodes + 1}, {-1, 0}, {math.MinInt, math.MaxInt}}
	for a := 1; a <= nodes; a++ {
		l = append(l, [2]int{a, a})
		for _, b := range []int{0, -1, -a, nodes + 1, nodes + 2, a + 256, a + 1<<32, math.MinInt, math.MaxInt} {
			if b < 1 || b > nodes {
				l = append(l, [2]int{a, b}, [2]int{b, a})
			}
		}
	}
	return l
}

// P11.1: the chapter's example, from either side.
func TestExample(t *testing.T) {
	for _, cut := range [][2]int{{2, 1}, {1, 2}} {
		n := fresh(t, 2)
		checkError(t, "Cut", n.Cut(cut[0], cut[1]), api.OK)
		checkLost(t, n, 1, Packet{From: 1, To: 2, Bytes: "a"})
		checkLost(t, n, 1, Packet{From: 2, To: 1, Bytes: "a"})
		checkAll(t, n)
	}
}

// P11.1: a net of each count of nodes that may be, with nothing under way and all ways whole, and none of another count.
func TestNew(t *testing.T) {
	for nodes := 1; nodes <= 16; nodes++ {
		n := fresh(t, nodes)
		checkAll(t, n)
		checkWays(t, n, nodes)
		for _, x := range noWays(nodes) {
			checkLost(t, n, 1, Packet{From: x[0], To: x[1], Bytes: "x"})
		}
		checkAll(t, n)
	}
	for _, nodes := range []int{0, -1, -16, math.MinInt, 17, 18, 256, 257, 1<<32 + 1, math.MaxInt} {
		if n, e := New(nodes); n != nil || e != api.ErrArg {
			t.Errorf("New(%d) = %v, %d", nodes, n, e)
		}
	}
}

// P11.1: two nets have nothing to do with one another.
func TestTwoNets(t *testing.T) {
	a, b := with(t, named("a", "b")...), with(t, named("c")...)
	b.Cut(1, 3)
	a.Cut(1, 2)
	a.HealAll()
	a.Spoil(0, 0, 1)
	b.Double(0)
	a.Take(1)
	checkAll(t, a, Packet{1, 2, "`", true})
	checkAll(t, b, named("c", "c")...)
	checkWays(t, a, 3)
	checkWays(t, b, 3, [2]int{1, 3})
}

// P11.1: no packet, one, and several, behind those that are under way, as they are handed in: with no bytes, with any, two that are the same, one that is Spoilt already.
func TestSend(t *testing.T) {
	for _, l := range [][]Packet{
		nil,
		{},
		named("a"),
		named("a", "b", "a", "a"),
		{{1, 2, "", false}},
		{{3, 1, "\x00\xff\xc3", false}, {1, 3, "\n", false}, {2, 3, strings.Repeat("long", 1<<18), false}},
		{{2, 1, "spoilt", true}, {2, 1, "spoilt", false}, {2, 1, "", true}},
		numbered(200),
	} {
		n := with(t, l...)
		checkLost(t, n, 0)
		checkLost(t, n, 0, []Packet{}...)
		checkAll(t, n, l...)
		one := Packet{From: 2, To: 3, Bytes: "one"}
		checkLost(t, n, 0, one)
		checkAll(t, n, append(slices.Clone(l), one)...)
	}
}

// P11.1: a packet from or to what is no node, or from a node to itself, is lost, the others of its list aren't.
func TestSendWithoutAWay(t *testing.T) {
	for _, nodes := range []int{1, 2, 3, 15, 16} {
		n := fresh(t, nodes)
		var all, good []Packet
		for i, x := range noWays(nodes) {
			p := Packet{From: x[0], To: x[1], Bytes: "x"}
			checkLost(t, n, 1, p)
			all = append(all, p)
			if nodes > 1 && i < 200 {
				g := Packet{From: 1 + i%nodes, To: 1 + (i+1)%nodes, Bytes: strconv.Itoa(i)}
				all, good = append(all, g), append(good, g)
			}
		}
		checkAll(t, n)
		checkLost(t, n, len(noWays(nodes)), all...)
		checkAll(t, n, good...)
	}
}

// P11.1: up to MaxFlight are under way, in one Send or in many; what comes behind is lost, till one is taken.
func TestFull(t *testing.T) {
	l := numbered(300)
	one, many := fresh(t, 3), fresh(t, 3)
	checkLost(t, one, 44, l...)
	for i, p := range l {
		if lost := many.Send(p); (lost == 1) != (i >= 256) {
			t.Errorf("the packet %d: %d lost", i, lost)
		}
	}
	for _, n := range []*Net{one, many} {
		checkAll(t, n, l[:256]...)
		checkLost(t, n, 0)
		checkLost(t, n, 2, Packet{From: 1, To: 1}, Packet{From: 1, To: 2})
		for i := range 256 {
			checkError(t, "Double of one of 256", n.Double(i), api.ErrFull)
		}
		checkAll(t, n, l[:256]...)
		checkTake(t, n, 7, l[7])
		checkLost(t, n, 2, l[257:260]...)
		checkAll(t, n, append(slices.Concat(l[:7], l[8:256]), l[257])...)
	}
}

// P11.1: what is lost for want of a way takes no room.
func TestLostTakesNoRoom(t *testing.T) {
	n := fresh(t, 3)
	n.Cut(1, 3)
	var all, good []Packet
	for i := range 256 {
		g := Packet{From: 2, To: 1 + i%2*2, Bytes: strconv.Itoa(i)}
		all = append(all, Packet{From: 1, To: 3}, g, Packet{From: 3, To: 1}, Packet{From: 2, To: 2}, Packet{From: 4, To: 2})
		good = append(good, g)
	}
	checkLost(t, n, 4*256, all...)
	checkAll(t, n, good...)
}

// P11.1: the packet that stands at a place is taken, at each, and the others stay in order; none stands elsewhere.
func TestTake(t *testing.T) {
	for many := range 6 {
		l := numbered(many)
		for i := range many {
			n := with(t, l...)
			checkTake(t, n, i, l[i])
			checkAll(t, n, slices.Concat(l[:i], l[i+1:])...)
		}
		n := with(t, l...)
		for _, i := range noPlaces(many) {
			if p, e := n.Take(i); p != (Packet{}) || e != api.ErrNone {
				t.Errorf("Take(%d) of %d = %v, %d", i, many, p, e)
			}
		}
		checkAll(t, n, l...)
		for _, p := range l {
			checkTake(t, n, 0, p)
		}
		checkAll(t, n)
	}
}

// P11.1: what was taken isn't under way behind a Send; a packet that stands in another one's place is told as it is.
func TestTakeAndSend(t *testing.T) {
	n := with(t, numbered(3)...)
	l := numbered(9)
	checkTake(t, n, 1, l[1])
	checkLost(t, n, 0, l[3])
	checkTake(t, n, 1, l[2])
	checkLost(t, n, 0, l[4], l[5])
	checkTake(t, n, 3, l[5])
	checkTake(t, n, 0, l[0])
	checkAll(t, n, l[3], l[4])
}

// P11.1: a packet is under way once more, behind the others; so is what is under way twice already, and what is Spoilt.
func TestDouble(t *testing.T) {
	for many := range 5 {
		l := numbered(many)
		for i := range many {
			n := with(t, l...)
			checkError(t, "Double", n.Double(i), api.OK)
			checkAll(t, n, append(slices.Clone(l), l[i])...)
			checkError(t, "Double of the double", n.Double(many), api.OK)
			checkAll(t, n, append(slices.Clone(l), l[i], l[i])...)
			checkError(t, "Spoil", n.Spoil(i, 0, 0xff), api.OK)
			spoilt := n.All()[i]
			checkError(t, "Double of what is Spoilt", n.Double(i), api.OK)
			checkTake(t, n, many+2, spoilt)
			checkTake(t, n, many+1, l[i])
			checkTake(t, n, many, l[i])
			checkTake(t, n, i, spoilt)
		}
		n := with(t, l...)
		for _, i := range noPlaces(many) {
			checkError(t, "Double of none", n.Double(i), api.ErrNone)
		}
		checkAll(t, n, l...)
	}
}

// P11.1: as many as MaxFlight by doubling, and no more; that none stands there is asked ahead of it.
func TestDoubleTillFull(t *testing.T) {
	n := with(t, named("a")...)
	for n.Len() < 256 {
		checkError(t, "Double", n.Double(n.Len()-1), api.OK)
	}
	all := slices.Repeat(named("a"), 256)
	checkAll(t, n, all...)
	for _, i := range []int{0, 1, 255} {
		checkError(t, "Double of one of 256", n.Double(i), api.ErrFull)
	}
	for _, i := range noPlaces(256) {
		if i < 0 || i > 255 {
			checkError(t, "Double of none, where 256 are", n.Double(i), api.ErrNone)
		}
	}
	checkLost(t, n, 1, named("b")...)
	checkAll(t, n, all...)
	n.Take(100)
	checkError(t, "Double, one taken", n.Double(254), api.OK)
	checkError(t, "Double, full again", n.Double(254), api.ErrFull)
	checkAll(t, n, all...)
}

// P11.1: each byte, by each other one, is that and the other, exclusively or; the packet's other bytes, and the other packets, stay.
func TestSpoil(t *testing.T) {
	for was := range 256 {
		for by := 1; by < 256; by++ {
			n := fresh(t, 2)
			s := string([]byte{byte(was)})
			n.Send(Packet{1, 2, s, false}, Packet{2, 1, s, false})
			e := n.Spoil(0, 0, byte(by))
			want := ""
			for bit := 1; bit < 256; bit *= 2 {
				if was&bit != by&bit {
					want += "1"
				} else {
					want += "0"
				}
			}
			got := n.All()
			if e != api.OK || len(got[0].Bytes) != 1 || bits(got[0].Bytes[0]) != want || !got[0].Spoilt || got[1] != (Packet{2, 1, s, false}) {
				t.Fatalf("%d by %d: %d, %v", was, by, e, got)
			}
		}
	}
	for i, s := range []string{"x", "ab", "\x00\xff\x00\xff", "0123456789", strings.Repeat("long", 1024)} {
		for at := range len(s) {
			n := with(t, append(named("a", "b")[:i%3], Packet{2, 3, s, false}, Packet{2, 3, s, false})...)
			checkError(t, "Spoil", n.Spoil(i%3, at, 0x41), api.OK)
			checkAll(t, n, append(named("a", "b")[:i%3], Packet{2, 3, s[:at] + string([]byte{s[at] ^ 0x41}) + s[at+1:], true}, Packet{2, 3, s, false})...)
		}
	}
}

// bits is a byte's bits, the lowest one first.
func bits(b byte) string {
	s := ""
	for range 8 {
		s += strconv.Itoa(int(b % 2))
		b /= 2
	}
	return s
}

// P11.1: which error is told ahead of which, and that a Spoil that is refused changes nothing.
func TestSpoilRefused(t *testing.T) {
	l := []Packet{{1, 2, "abc", false}, {2, 3, "", false}, {3, 1, "abc", true}, {3, 1, "", true}}
	for i := -1; i < 5; i++ {
		for _, at := range []int{math.MinInt, -1, 0, 2, 3, 4, 255, 1 << 32, math.MaxInt} {
			for _, by := range []byte{0, 1, 255} {
				want := api.OK
				switch {
				case i < 0 || i > 3:
					want = api.ErrNone
				case i > 1:
					want = api.ErrThere
				case i == 1 || at != 0 && at != 2 || by == 0:
					want = api.ErrArg
				}
				n := with(t, l...)
				if e := n.Spoil(i, at, by); e != want {
					t.Errorf("Spoil(%d, %d, %d): %d, want %d", i, at, by, e, want)
				}
				if want != api.OK {
					checkAll(t, n, l...)
				}
			}
		}
	}
	n := with(t, l...)
	for _, i := range noPlaces(4) {
		checkError(t, "Spoil of none", n.Spoil(i, 0, 1), api.ErrNone)
	}
	checkAll(t, n, l...)
}

// P11.1: a packet is spoilt once, also by what would make it as it was.
func TestSpoilTwice(t *testing.T) {
	n := with(t, named("ab")...)
	checkError(t, "Spoil", n.Spoil(0, 1, 1), api.OK)
	for at := -1; at < 4; at++ {
		for by := range byte(3) {
			checkError(t, "Spoil of what is Spoilt", n.Spoil(0, at, by), api.ErrThere)
		}
	}
	checkAll(t, n, Packet{1, 2, "ac", true})
}

// P11.1: of a packet and its double each is spoilt alone.
func TestSpoilOfDoubles(t *testing.T) {
	n := with(t, named("ab")...)
	n.Double(0)
	n.Double(1)
	checkError(t, "Spoil of the first", n.Spoil(0, 0, 2), api.OK)
	checkError(t, "Spoil of the last", n.Spoil(2, 1, 1), api.OK)
	checkAll(t, n, Packet{1, 2, "cb", true}, Packet{1, 2, "ab", false}, Packet{1, 2, "ac", true})
}

// P11.1: of all ways just the one is cut, from whichever side, and is whole again from whichever side.
func TestCutAndHeal(t *testing.T) {
	for _, nodes := range []int{2, 3, 5, 16} {
		for a := 1; a <= nodes; a++ {
			for b := 1; b <= nodes; b++ {
				if a == b {
					continue
				}
				n := fresh(t, nodes)
				checkError(t, "Cut", n.Cut(a, b), api.OK)
				checkWays(t, n, nodes, [2]int{min(a, b), max(a, b)})
				checkError(t, "Heal from the other side", n.Heal(b, a), api.OK)
				checkWays(t, n, nodes)
				checkError(t, "Cut", n.Cut(a, b), api.OK)
				checkError(t, "Heal from the same side", n.Heal(a, b), api.OK)
				checkWays(t, n, nodes)
			}
		}
	}
}

// P11.1: a way is cut or whole, however often it was cut or healed ahead of that.
func TestCutAgain(t *testing.T) {
	n := fresh(t, 4)
	for range 3 {
		checkError(t, "Heal of what is whole", n.Heal(2, 3), api.OK)
		checkError(t, "Heal of what is whole", n.Heal(3, 2), api.OK)
		checkWays(t, n, 4)
		checkError(t, "Cut", n.Cut(3, 2), api.OK)
		checkError(t, "Cut of what is cut", n.Cut(2, 3), api.OK)
		checkError(t, "Cut of what is cut", n.Cut(3, 2), api.OK)
		checkWays(t, n, 4, [2]int{2, 3})
		checkError(t, "Cut of another one", n.Cut(4, 1), api.OK)
		checkWays(t, n, 4, [2]int{2, 3}, [2]int{1, 4})
		checkError(t, "Heal", n.Heal(2, 3), api.OK)
		checkWays(t, n, 4, [2]int{1, 4})
		checkError(t, "Heal", n.Heal(4, 1), api.OK)
	}
	checkWays(t, n, 4)
}

// P11.1: what has no way is neither cut nor healed, and no other way is by it.
func TestCutWithoutAWay(t *testing.T) {
	for _, nodes := range []int{1, 2, 3, 16} {
		n := fresh(t, nodes)
		for _, x := range noWays(nodes) {
			checkError(t, "Cut of no way", n.Cut(x[0], x[1]), api.ErrArg)
			checkError(t, "Heal of no way", n.Heal(x[0], x[1]), api.ErrArg)
		}
		checkWays(t, n, nodes)
		var cut [][2]int
		for b := 2; b <= nodes; b++ {
			checkError(t, "Cut", n.Cut(b, 1), api.OK)
			cut = append(cut, [2]int{1, b})
		}
		for _, x := range noWays(nodes) {
			checkError(t, "Cut of no way", n.Cut(x[0], x[1]), api.ErrArg)
			checkError(t, "Heal of no way", n.Heal(x[0], x[1]), api.ErrArg)
		}
		checkWays(t, n, nodes, cut...)
		n.HealAll()
		checkWays(t, n, nodes)
	}
}

// P11.1: whatever is cut, all is whole behind HealAll, once and again, and can be cut again.
func TestHealAll(t *testing.T) {
	n := fresh(t, 16)
	n.HealAll()
	checkWays(t, n, 16)
	for range 2 {
		for a := 1; a <= 16; a++ {
			for b := a + 1; b <= 16; b++ {
				checkError(t, "Cut", n.Cut(a, b), api.OK)
			}
		}
		for a := 1; a <= 16; a++ {
			for b := a + 1; b <= 16; b++ {
				checkWay(t, n, a, b, false)
			}
		}
		n.HealAll()
		checkWays(t, n, 16)
		n.HealAll()
		checkWays(t, n, 16)
	}
	n.Cut(5, 4)
	checkWays(t, n, 16, [2]int{4, 5})
}

// P11.1: what is under way stays so when its way is cut and healed: it is told, doubled, spoilt and taken as ever.
func TestUnderWayStays(t *testing.T) {
	l := []Packet{{1, 2, "a", false}, {2, 1, "b", false}, {2, 3, "c", false}, {1, 2, "d", false}}
	n := with(t, l...)
	checkError(t, "Cut", n.Cut(1, 2), api.OK)
	checkAll(t, n, l...)
	checkError(t, "Double on a way that is cut", n.Double(1), api.OK)
	checkError(t, "Spoil on a way that is cut", n.Spoil(3, 0, 1), api.OK)
	checkTake(t, n, 0, l[0])
	want := []Packet{l[1], l[2], {1, 2, "e", true}, l[1]}
	checkAll(t, n, want...)
	checkError(t, "Heal", n.Heal(1, 2), api.OK)
	checkAll(t, n, want...)
	n.Cut(3, 2)
	n.HealAll()
	checkAll(t, n, want...)
}

// P11.1: what isn't there, and what New didn't make, loses all, has nothing, and no way.
func TestNoNet(t *testing.T) {
	for _, n := range []*Net{nil, {}, new(Net)} {
		for range 2 {
			checkLost(t, n, 0)
			checkLost(t, n, 0, []Packet{}...)
			checkLost(t, n, 1, Packet{})
			checkLost(t, n, 5, append(named("a", "b", "c"), Packet{From: 1, To: 1}, Packet{From: -1, To: 99})...)
			checkLost(t, n, 300, numbered(300)...)
			for _, i := range append(noPlaces(0), 1, 2) {
				if p, e := n.Take(i); p != (Packet{}) || e != api.ErrNone {
					t.Errorf("Take(%d) = %v, %d", i, p, e)
				}
				checkError(t, "Double", n.Double(i), api.ErrNone)
				for _, by := range []byte{0, 1} {
					checkError(t, "Spoil", n.Spoil(i, i, by), api.ErrNone)
				}
			}
			for _, x := range append(noWays(3), [2]int{1, 2}, [2]int{2, 1}, [2]int{15, 16}) {
				checkError(t, "Cut", n.Cut(x[0], x[1]), api.ErrArg)
				checkError(t, "Heal", n.Heal(x[0], x[1]), api.ErrArg)
			}
			n.HealAll()
			checkAll(t, n)
			if l := n.All(); len(l) != 0 || n.Len() != 0 {
				t.Error(l, n.Len())
			}
		}
	}
}

// within tells whether a text lies in another one's memory.
func within(part, whole string) bool {
	at, from := uintptr(unsafe.Pointer(unsafe.StringData(part))), uintptr(unsafe.Pointer(unsafe.StringData(whole)))
	return part != "" && whole != "" && at >= from && at < from+uintptr(len(whole))
}

// Rule 2: lists that were handed in stay as they were, what was told stays as it was, and neither is what the net has.
func TestListsAreNotShared(t *testing.T) {
	l := append(numbered(4), Packet{From: 9, To: 1, Bytes: "lost"})
	was := slices.Clone(l)
	n := fresh(t, 3)
	checkLost(t, n, 1, l...)
	told := n.All()
	n.Spoil(0, 0, 1)
	n.Take(1)
	n.Double(2)
	checkLost(t, n, 0, l[0])
	if !slices.Equal(l, was) || !slices.Equal(told, was[:4]) {
		t.Errorf("handed in was %v, told was %v", l, told)
	}
	kept := n.All()
	clear(l)
	clear(told)
	clear(n.All())
	again := n.All()
	_ = append(again[:1], Packet{1, 2, "put where it was told", false})
	checkAll(t, n, kept...)
}

// Rule 2: bytes that are told are neither those that were handed in, nor those that are kept.
func TestBytesAreNotShared(t *testing.T) {
	s := strings.Repeat("s", 100)
	n := with(t, Packet{1, 2, s[:90], false})
	n.Double(0)
	n.Double(0)
	n.Spoil(2, 50, 1)
	n.Double(2)
	told := append(n.All(), n.All()...)
	for range 4 {
		p, _ := n.Take(n.Len() / 2)
		told = append(told, append(n.All(), p)...)
	}
	for i, p := range told {
		if within(p.Bytes, s) {
			t.Errorf("the answer %d is a part of what was handed in", i)
		}
		for j, q := range told[:i] {
			if within(p.Bytes, q.Bytes) {
				t.Errorf("the answers %d and %d share their bytes", j, i)
			}
		}
	}
}
