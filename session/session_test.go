package session

import (
	"fmt"
	"math"
	"slices"
	"strconv"
	"strings"
	"testing"
	"unsafe"

	"remuda/api"
)

// The tests' session is that of node 2 among four, with the epoch 5.
const (
	self  = 2
	nodes = 4
	own   = 5
)

func fresh(t *testing.T, node, nodes, epoch int) *Session {
	t.Helper()
	s, e := New(node, nodes, epoch)
	if s == nil || e != api.OK {
		t.Fatalf("New(%d, %d, %d): %d", node, nodes, epoch, e)
	}
	return s
}

// begun is the tests' session.
func begun(t *testing.T) *Session {
	t.Helper()
	return fresh(t, self, nodes, own)
}

// met is the tests' session, that knows the epochs 7 of node 1 and 9 of node 3.
func met(t *testing.T) *Session {
	t.Helper()
	s := begun(t)
	checkTake(t, s, 1, Envelope{Kind: Ack, Epoch: 7}, "", api.OK)
	checkTake(t, s, 3, Envelope{Kind: Ack, Epoch: 9}, "", api.OK)
	return s
}

// dataTo and ackTo are what the tests' session puts out.
func dataTo(to, peer, seq int, payload string) Out {
	return Out{to, Envelope{Data, own, peer, seq, payload}}
}

func ackTo(to, peer, seq int) Out { return Out{to, Envelope{Ack, own, peer, seq, ""}} }

// upTo is so many payloads, no two the same.
func upTo(many int) []string {
	l := make([]string, many)
	for i := range l {
		l[i] = strconv.Itoa(i)
	}
	return l
}

// brief is the beginning of what is to be told.
func brief(v any) string {
	s := fmt.Sprintf("%+v", v)
	return s[:min(len(s), 400)]
}

func checkSend(t *testing.T, s *Session, to int, l []string, want api.Errno, out ...Out) {
	t.Helper()
	if got, e := s.Send(to, l...); e != want || !slices.Equal(got, out) {
		t.Errorf("Send(%d) of %s: %s, %d; want %s, %d", to, brief(l), brief(got), e, brief(out), want)
	}
}

func checkTake(t *testing.T, s *Session, from int, e Envelope, payload string, want api.Errno, out ...Out) {
	t.Helper()
	if p, got, err := s.Take(from, e); p != payload || err != want || !slices.Equal(got, out) {
		t.Errorf("Take(%d) of %s: %q, %s, %d; want %q, %s, %d", from, brief(e), brief(p), brief(got), err, brief(payload), brief(out), want)
	}
}

func checkTick(t *testing.T, s *Session, out ...Out) {
	t.Helper()
	if got := s.Tick(); !slices.Equal(got, out) {
		t.Errorf("Tick: %s, want %s", brief(got), brief(out))
	}
}

// skip lets so many ticks go by, at which nothing goes out.
func skip(t *testing.T, s *Session, many int) {
	t.Helper()
	for range many {
		checkTick(t, s)
	}
}

// checkHeld tells whether so many payloads are held for each node, from node 1 on, and none for others.
func checkHeld(t *testing.T, s *Session, want ...int) {
	t.Helper()
	for n := -3; n <= 20; n++ {
		x := 0
		if 1 <= n && n <= len(want) {
			x = want[n-1]
		}
		if got := s.Held(n); got != x {
			t.Errorf("Held(%d) = %d, want %d", n, got, x)
		}
	}
}

// checkKnown tells likewise whether such epochs are known.
func checkKnown(t *testing.T, s *Session, want ...int) {
	t.Helper()
	for n := -3; n <= 20; n++ {
		x := 0
		if 1 <= n && n <= len(want) {
			x = want[n-1]
		}
		if got := s.Known(n); got != x {
			t.Errorf("Known(%d) = %d, want %d", n, got, x)
		}
	}
}

// noOthers is what is no other node than the tests' own.
func noOthers() []int {
	return []int{self, 0, -1, -self, nodes + 1, nodes + 2, 16, 17, 1<<32 + 1, math.MinInt, math.MaxInt}
}

// acked lets the payload of a number go, of a peer whose epoch is that one.
func acked(t *testing.T, s *Session, from, epoch int, l ...int) {
	t.Helper()
	for _, seq := range l {
		was := s.Held(from)
		checkTake(t, s, from, Envelope{Ack, epoch, own, seq, ""}, "", api.OK)
		if s.Held(from) != was-1 {
			t.Errorf("behind the Ack of %d there are held %d, and were %d", seq, s.Held(from), was)
		}
	}
}

// P14.1: the chapter's example.
func TestExample(t *testing.T) {
	for _, a := range []string{"a", "", strings.Repeat("long", longest/4)} {
		one, two := fresh(t, 1, 2, 1), fresh(t, 2, 2, 1)
		l, e := one.Send(2, a)
		if want := []Out{{2, Envelope{Data, 1, 0, 1, a}}}; e != api.OK || !slices.Equal(l, want) {
			t.Fatalf("Send: %s, %d", brief(l), e)
		}
		ack := Out{1, Envelope{Ack, 1, 1, 1, ""}}
		checkTake(t, two, 1, l[0].E, a, api.OK, ack)
		for range 3 {
			checkTake(t, two, 1, l[0].E, "", api.ErrThere, ack)
		}
		checkTake(t, one, 2, ack.E, "", api.OK)
		checkHeld(t, one)
		checkHeld(t, two)
		checkKnown(t, one, 0, 1)
		checkKnown(t, two, 1, 0)
	}
}

// P14.1: which sessions there may be; at first they know and hold nothing.
func TestNew(t *testing.T) {
	for n := -2; n <= 18; n++ {
		for node := -2; node <= 18; node++ {
			for _, epoch := range append(wrongNums(), 0, 1, 2, 1<<32, last-1, last) {
				s, e := New(node, n, epoch)
				if 1 <= n && n <= 16 && 1 <= node && node <= n && 1 <= epoch && epoch <= last {
					if s == nil || e != api.OK {
						t.Errorf("New(%d, %d, %d): %d", node, n, epoch, e)
					}
					checkHeld(t, s)
					checkKnown(t, s)
				} else if s != nil || e != api.ErrArg {
					t.Errorf("New(%d, %d, %d): %v, %d", node, n, epoch, s, e)
				}
			}
		}
	}
	for _, n := range []int{math.MinInt, math.MaxInt, 1<<32 + 2} {
		for _, x := range [][3]int{{n, 2, 1}, {1, n, 1}, {n, n, 1}} {
			if s, e := New(x[0], x[1], x[2]); s != nil || e != api.ErrArg {
				t.Errorf("New%v: %v, %d", x, s, e)
			}
		}
	}
}

// P14.1: each session sends to and takes from all other nodes, and those alone.
func TestEachNode(t *testing.T) {
	for n := 1; n <= 16; n++ {
		for node := 1; node <= n; node++ {
			s := fresh(t, node, n, last)
			for to := -1; to <= 18; to++ {
				e := Envelope{Data, last, last, last, "y"}
				if to < 1 || to > n || to == node {
					checkSend(t, s, to, []string{"x"}, api.ErrArg)
					checkTake(t, s, to, e, "", api.ErrArg)
					continue
				}
				checkSend(t, s, to, []string{"x"}, api.OK, Out{to, Envelope{Data, last, 0, 1, "x"}})
				checkTake(t, s, to, e, "y", api.OK, Out{to, Envelope{Ack, last, last, last, ""}})
			}
		}
	}
}

// P14.1: payloads get the next numbers, of each peer its own, and go out with what is known of the peer.
func TestSend(t *testing.T) {
	s := begun(t)
	checkSend(t, s, 1, []string{"a"}, api.OK, dataTo(1, 0, 1, "a"))
	checkSend(t, s, 3, []string{"b", "b", ""}, api.OK, dataTo(3, 0, 1, "b"), dataTo(3, 0, 2, "b"), dataTo(3, 0, 3, ""))
	checkTake(t, s, 1, Envelope{Kind: Ack, Epoch: 7}, "", api.OK)
	checkSend(t, s, 1, []string{"c", "d"}, api.OK, dataTo(1, 7, 2, "c"), dataTo(1, 7, 3, "d"))
	checkSend(t, s, 3, []string{"e"}, api.OK, dataTo(3, 0, 4, "e"))
	checkHeld(t, s, 3, 0, 4)
	acked(t, s, 1, 7, 3, 1, 2)
	checkSend(t, s, 1, []string{"f"}, api.OK, dataTo(1, 7, 4, "f"))
	checkHeld(t, s, 1, 0, 4)
}

// P14.1: a Send of nothing is OK, also if no more can be held.
func TestSendNothing(t *testing.T) {
	s := begun(t)
	checkSend(t, s, 1, nil, api.OK)
	checkSend(t, s, 1, []string{}, api.OK)
	checkHeld(t, s)
	checkSend(t, s, 2, nil, api.ErrArg)
	s.Send(1, upTo(32)...)
	checkSend(t, s, 1, nil, api.OK)
	checkHeld(t, s, 32)
	acked(t, s, 1, 7, inOrder(2, 32)...)
	for i := range 32 {
		checkSend(t, s, 1, []string{"x"}, api.OK, dataTo(1, 7, 33+i, "x"))
		acked(t, s, 1, 7, 33+i)
	}
	checkSend(t, s, 1, []string{"x"}, api.ErrFull)
	checkSend(t, s, 1, nil, api.OK)
	checkHeld(t, s, 1)
}

// inOrder is the numbers from one to another.
func inOrder(from, to int) []int {
	var l []int
	for n := from; n <= to; n++ {
		l = append(l, n)
	}
	return l
}

// P14.1: payloads that are too long, and nodes that are none: nothing is done, and ErrArg is asked ahead of ErrFull.
func TestSendWrong(t *testing.T) {
	tooLong := strings.Repeat("x", longest+1)
	fits := tooLong[1:]
	for _, first := range []int{0, 1, 31, 32} {
		s := begun(t)
		s.Send(1, upTo(first)...)
		for _, l := range [][]string{{tooLong}, {"a", tooLong}, {tooLong, "a"}, {"a", tooLong + "x", "b"}, append(upTo(32), tooLong), {strings.Repeat(fits, 20)}} {
			checkSend(t, s, 1, l, api.ErrArg)
		}
		for _, to := range noOthers() {
			for _, l := range [][]string{nil, {"a"}, {tooLong}, upTo(33)} {
				checkSend(t, s, to, l, api.ErrArg)
			}
		}
		checkHeld(t, s, first)
		if first < 32 {
			checkSend(t, s, 1, []string{fits}, api.OK, dataTo(1, 0, first+1, fits))
			continue
		}
		checkSend(t, s, 1, []string{fits}, api.ErrFull)
	}
}

// P14.1: at most 32 are held for each peer; if not all of a list can be, none is.
func TestMostHeld(t *testing.T) {
	for _, first := range []int{0, 1, 2, 16, 30, 31, 32} {
		s := begun(t)
		s.Send(1, upTo(first)...)
		for _, many := range []int{33 - first, 34 - first, 64, 65, 1000} {
			checkSend(t, s, 1, upTo(many), api.ErrFull)
			checkHeld(t, s, first)
		}
		if l, e := s.Send(1, upTo(32-first)...); e != api.OK || len(l) != 32-first || first < 32 && l[0] != dataTo(1, 0, first+1, "0") {
			t.Errorf("behind %d: %s, %d", first, brief(l), e)
		}
		checkHeld(t, s, 32)
		checkSend(t, s, 1, []string{"x"}, api.ErrFull)
		checkSend(t, s, 3, []string{"x"}, api.OK, dataTo(3, 0, 1, "x"))
		acked(t, s, 1, 7, 20, 1)
		checkSend(t, s, 1, []string{"x", "y", "z"}, api.ErrFull)
		checkSend(t, s, 1, []string{"x", "y"}, api.OK, dataTo(1, 7, 33, "x"), dataTo(1, 7, 34, "y"))
		checkHeld(t, s, 32, 0, 1)
	}
}

// P14.1: the number of each that is held is less than 64 above the least of them.
func TestFarAbove(t *testing.T) {
	for _, least := range []int{1, 2, 7, 63, 64, 65, 200} {
		s := begun(t)
		for n := 1; n < least; n++ {
			s.Send(1, "x")
			acked(t, s, 1, 7, n)
		}
		s.Send(1, "the least")
		for n := least + 1; n < least+60; n++ {
			checkSend(t, s, 1, []string{"x"}, api.OK, dataTo(1, s.Known(1), n, "x"))
			acked(t, s, 1, 7, n)
		}
		checkSend(t, s, 1, upTo(5), api.ErrFull)
		checkSend(t, s, 1, upTo(31), api.ErrFull)
		checkHeld(t, s, 1)
		checkSend(t, s, 1, []string{"a", "b"}, api.OK, dataTo(1, 7, least+60, "a"), dataTo(1, 7, least+61, "b"))
		checkSend(t, s, 1, []string{"c", "d", "e"}, api.ErrFull)
		checkSend(t, s, 1, []string{"c", "d"}, api.OK, dataTo(1, 7, least+62, "c"), dataTo(1, 7, least+63, "d"))
		checkSend(t, s, 1, []string{"e"}, api.ErrFull)
		acked(t, s, 1, 7, least+61)
		checkSend(t, s, 1, []string{"e"}, api.ErrFull)
		acked(t, s, 1, 7, least)
		l, e := s.Send(1, upTo(29)...)
		if e != api.OK || len(l) != 29 || l[28] != dataTo(1, 7, least+92, "28") {
			t.Errorf("Send behind the least's Ack: %s, %d", brief(l), e)
		}
		checkHeld(t, s, 32)
	}
}

// goingOut is the ticks, from 1 on, at which what was sent ahead of them goes out again.
func goingOut(till int) []int {
	l := []int{4, 12}
	for n := 28; n <= till; n += 16 {
		l = append(l, n)
	}
	return l
}

// P14.1: what is held goes out again 4 ticks later, then 8, then 16, and 16 again and again, till it is acknowledged.
func TestAgain(t *testing.T) {
	for _, payload := range []string{"x", ""} {
		s := begun(t)
		s.Send(3, payload)
		for n := 1; n <= 300; n++ {
			if slices.Contains(goingOut(300), n) {
				checkTick(t, s, dataTo(3, 0, 1, payload))
			} else {
				checkTick(t, s)
			}
		}
		checkHeld(t, s, 0, 0, 1)
		acked(t, s, 3, 9, 1)
		skip(t, s, 100)
	}
}

// P14.1: each has a delay of its own, from when it was sent; what goes out again is told by peers, then by numbers, with what is known of the peer then.
func TestAgainInOrder(t *testing.T) {
	s := begun(t)
	s.Send(4, "d1")
	s.Send(3, "c1", "c2")
	s.Send(1, "a1")
	s.Send(3, "c3")
	s.Tick()
	s.Send(3, "c4")
	s.Send(1, "a2")
	skip(t, s, 2)
	checkTick(t, s, dataTo(1, 0, 1, "a1"), dataTo(3, 0, 1, "c1"), dataTo(3, 0, 2, "c2"), dataTo(3, 0, 3, "c3"), dataTo(4, 0, 1, "d1"))
	checkTake(t, s, 3, Envelope{Kind: Ack, Epoch: 9}, "", api.OK)
	checkTick(t, s, dataTo(1, 0, 2, "a2"), dataTo(3, 9, 4, "c4"))
	acked(t, s, 3, 9, 2)
	skip(t, s, 6)
	s.Send(3, "c5")
	checkTick(t, s, dataTo(1, 0, 1, "a1"), dataTo(3, 9, 1, "c1"), dataTo(3, 9, 3, "c3"), dataTo(4, 0, 1, "d1"))
	checkTick(t, s, dataTo(1, 0, 2, "a2"), dataTo(3, 9, 4, "c4"))
	skip(t, s, 1)
	checkTick(t, s, dataTo(3, 9, 5, "c5"))
}

// P14.1: an Ack doesn't change when the others go out again.
func TestAckLeavesTheOthers(t *testing.T) {
	for gone := 1; gone <= 3; gone++ {
		s := met(t)
		s.Send(1, "x1", "x2", "x3")
		skip(t, s, 3)
		acked(t, s, 1, 7, gone)
		for n := 4; n <= 100; n++ {
			var want []Out
			for seq := 1; seq <= 3 && slices.Contains(goingOut(100), n); seq++ {
				if seq != gone {
					want = append(want, dataTo(1, 7, seq, "x"+strconv.Itoa(seq)))
				}
			}
			checkTick(t, s, want...)
		}
	}
}

// P14.1: Data: each number's payload is told once, and acknowledged each time.
func TestTakeData(t *testing.T) {
	s := begun(t)
	for _, seq := range []int{3, 1, 2, 64, 66} {
		e := Envelope{Data, 7, 0, seq, "x" + strconv.Itoa(seq)}
		checkTake(t, s, 1, e, e.Payload, api.OK, ackTo(1, 7, seq))
		for _, again := range []Envelope{e, {Data, 7, own, seq, "y"}, {Data, 7, own, seq, ""}} {
			checkTake(t, s, 1, again, "", api.ErrThere, ackTo(1, 7, seq))
		}
	}
	checkTake(t, s, 1, Envelope{Data, 7, own, 5, ""}, "", api.OK, ackTo(1, 7, 5))
	checkTake(t, s, 1, Envelope{Data, 7, own, 5, "late"}, "", api.ErrThere, ackTo(1, 7, 5))
	checkTake(t, s, 3, Envelope{Data, 7, own, 3, "of another node"}, "of another node", api.OK, ackTo(3, 7, 3))
	checkKnown(t, s, 7, 0, 7)
	checkHeld(t, s)
}

// P14.1: a number too far below the greatest that came counts as seen.
func TestTakeFarBelow(t *testing.T) {
	for _, top := range []int{65, 100, 1 << 32, last} {
		s := begun(t)
		checkTake(t, s, 1, Envelope{Data, 7, 0, top, "top"}, "top", api.OK, ackTo(1, 7, top))
		checkTake(t, s, 1, Envelope{Data, 7, 0, top - 64, "x"}, "", api.ErrThere, ackTo(1, 7, top-64))
		checkTake(t, s, 1, Envelope{Data, 7, 0, 1, "x"}, "", api.ErrThere, ackTo(1, 7, 1))
		checkTake(t, s, 1, Envelope{Data, 7, 0, top - 63, "x"}, "x", api.OK, ackTo(1, 7, top-63))
		checkTake(t, s, 3, Envelope{Data, 7, 0, 1, "x"}, "x", api.OK, ackTo(3, 7, 1))
	}
}

// P14.1: an Ack lets its number's payload go, of its sender alone; one that isn't held, or Peer 0, changes nothing.
func TestTakeAck(t *testing.T) {
	s := begun(t)
	s.Send(1, "a1", "a2", "a3")
	s.Send(3, "c1", "c2", "c3")
	for _, seq := range []int{0, 1, 2, 3, 4, last} {
		checkTake(t, s, 1, Envelope{Ack, 7, 0, seq, ""}, "", api.OK)
	}
	for _, seq := range []int{0, 4, 5, 65, last} {
		checkTake(t, s, 1, Envelope{Ack, 7, own, seq, ""}, "", api.OK)
	}
	checkHeld(t, s, 3, 0, 3)
	acked(t, s, 1, 7, 2)
	checkTake(t, s, 1, Envelope{Ack, 7, own, 2, ""}, "", api.OK)
	checkHeld(t, s, 2, 0, 3)
	skip(t, s, 3)
	checkTick(t, s, dataTo(1, 7, 1, "a1"), dataTo(1, 7, 3, "a3"), dataTo(3, 0, 1, "c1"), dataTo(3, 0, 2, "c2"), dataTo(3, 0, 3, "c3"))
	checkTake(t, s, 1, Envelope{Data, 7, own, 2, "not seen by an Ack"}, "not seen by an Ack", api.OK, ackTo(1, 7, 2))
	acked(t, s, 1, 7, 3, 1)
	acked(t, s, 3, 1, 1, 2, 3)
	checkHeld(t, s)
}

// P14.1: what may not be taken: nothing is done.
func TestTakeWrong(t *testing.T) {
	s := met(t)
	s.Send(1, "a")
	s.Send(3, "c")
	for _, from := range noOthers() {
		for _, e := range []Envelope{{Data, 10, own, 1, "x"}, {Ack, 10, own, 1, ""}, {Ack, 10, 4, 1, ""}, {Ack, 1, own, 1, ""}, {}} {
			checkTake(t, s, from, e, "", api.ErrArg)
		}
	}
	for _, e := range wrongs() {
		checkTake(t, s, 1, e, "", api.ErrArg)
		e.Epoch += 6
		if !Right(e) {
			checkTake(t, s, 3, e, "", api.ErrArg)
		}
	}
	checkKnown(t, s, 7, 0, 9)
	checkHeld(t, s, 1, 0, 1)
	skip(t, s, 3)
	checkTick(t, s, dataTo(1, 7, 1, "a"), dataTo(3, 9, 1, "c"))
	for seq := 1; seq < 70; seq++ {
		checkTake(t, s, 1, Envelope{Data, 7, own, seq, "x"}, "x", api.OK, ackTo(1, 7, seq))
	}
}

// P14.1, 1: of an elder incarnation: nothing is done, and nothing goes out, whatever it is.
func TestTakeOfElder(t *testing.T) {
	s := met(t)
	s.Send(1, "a")
	for _, epoch := range []int{1, 2, 6} {
		for _, peer := range []int{0, own, 4, 6, last} {
			checkTake(t, s, 1, Envelope{Data, epoch, peer, 1, "x"}, "", api.ErrStale)
			checkTake(t, s, 1, Envelope{Ack, epoch, peer, 1, ""}, "", api.ErrStale)
		}
	}
	checkKnown(t, s, 7, 0, 9)
	checkHeld(t, s, 1)
	checkTake(t, s, 1, Envelope{Data, 7, own, 1, "x"}, "x", api.OK, ackTo(1, 7, 1))
	checkTake(t, s, 3, Envelope{Data, 8, own, 1, "x"}, "", api.ErrStale)
	checkTake(t, s, 4, Envelope{Data, 1, own, 1, "x"}, "x", api.OK, ackTo(4, 1, 1))
}

// P14.1, 2: the first incarnation that is known: it is known now, and what is held waits for its time.
func TestTakeOfFirst(t *testing.T) {
	for _, e := range []Envelope{{Data, 7, 0, 9, "x"}, {Data, 7, own, 9, "x"}, {Ack, 7, 0, 9, ""}, {Ack, 7, own, 9, ""}} {
		s := begun(t)
		s.Send(1, "a", "b")
		skip(t, s, 2)
		var out []Out
		if e.Kind == Data {
			out = []Out{ackTo(1, 7, 9)}
		}
		checkTake(t, s, 1, e, e.Payload, api.OK, out...)
		checkKnown(t, s, 7)
		skip(t, s, 1)
		checkTick(t, s, dataTo(1, 7, 1, "a"), dataTo(1, 7, 2, "b"))
		skip(t, s, 7)
		checkTick(t, s, dataTo(1, 7, 1, "a"), dataTo(1, 7, 2, "b"))
	}
}

// P14.1, 2: a new incarnation: it is known now, its numbers are new, and all that is held for it goes out anew at once, with a delay that begins anew.
func TestTakeOfNew(t *testing.T) {
	for _, ticks := range []int{0, 1, 3, 4, 11, 12, 27, 28, 50} {
		s := met(t)
		checkTake(t, s, 1, Envelope{Data, 7, own, 100, "x"}, "x", api.OK, ackTo(1, 7, 100))
		checkTake(t, s, 3, Envelope{Data, 9, own, 100, "y"}, "y", api.OK, ackTo(3, 9, 100))
		s.Send(1, "a", "b", "c")
		s.Send(3, "d")
		acked(t, s, 1, 7, 2)
		for range ticks {
			s.Tick()
		}
		a, c := dataTo(1, 8, 1, "a"), dataTo(1, 8, 3, "c")
		checkTake(t, s, 1, Envelope{Data, 8, own, 1, "new"}, "new", api.OK, a, c, ackTo(1, 8, 1))
		checkTake(t, s, 1, Envelope{Data, 8, own, 100, "new too"}, "new too", api.OK, ackTo(1, 8, 100))
		checkTake(t, s, 3, Envelope{Data, 9, own, 1, "not new"}, "", api.ErrThere, ackTo(3, 9, 1))
		checkKnown(t, s, 8, 0, 9)
		checkHeld(t, s, 2, 0, 1)
		for n := 1; n <= 50; n++ {
			var want []Out
			if slices.Contains(goingOut(50), n) {
				want = append(want, a, c)
			}
			if slices.Contains(goingOut(150), n+ticks) {
				want = append(want, dataTo(3, 9, 1, "d"))
			}
			checkTick(t, s, want...)
		}
		checkSend(t, s, 1, []string{"e"}, api.OK, dataTo(1, 8, 4, "e"))
	}
}

// P14.1, 2 and 4: what an Ack of a new incarnation lets go goes out once more ahead of that.
func TestNewIncarnationsAck(t *testing.T) {
	for _, x := range []struct{ peer, seq, left int }{{own, 2, 1}, {own, 0, 2}, {own, 3, 2}, {0, 2, 2}} {
		s := met(t)
		s.Send(1, "a", "b")
		checkTake(t, s, 1, Envelope{Ack, last, x.peer, x.seq, ""}, "", api.OK, dataTo(1, last, 1, "a"), dataTo(1, last, 2, "b"))
		checkHeld(t, s, x.left)
	}
}

// P14.1, 3: for another incarnation of this node: refused with an Ack of 0, but the sender's own incarnation is known from it.
func TestTakeForAnother(t *testing.T) {
	for _, peer := range []int{1, 4, 6, last} {
		for _, e := range []Envelope{{Data, 7, peer, 1, "x"}, {Ack, 7, peer, 1, ""}, {Ack, 7, peer, 0, ""}} {
			s := begun(t)
			s.Send(1, "a", "b")
			for range 3 {
				checkTake(t, s, 1, e, "", api.ErrStale, ackTo(1, 7, 0))
			}
			checkKnown(t, s, 7)
			checkHeld(t, s, 2)
			e.Epoch = 8
			checkTake(t, s, 1, e, "", api.ErrStale, dataTo(1, 8, 1, "a"), dataTo(1, 8, 2, "b"), ackTo(1, 8, 0))
			checkTake(t, s, 1, e, "", api.ErrStale, ackTo(1, 8, 0))
			checkKnown(t, s, 8)
			checkHeld(t, s, 2)
			skip(t, s, 3)
			checkTick(t, s, dataTo(1, 8, 1, "a"), dataTo(1, 8, 2, "b"))
			checkTake(t, s, 1, Envelope{Data, 8, own, 1, "still new"}, "still new", api.OK, ackTo(1, 8, 1))
		}
	}
}

// P14.1: an envelope that is for no incarnation (Peer 0) is for each.
func TestTakeForNone(t *testing.T) {
	for _, epoch := range []int{1, 2, last} {
		s := fresh(t, 1, 2, epoch)
		checkTake(t, s, 2, Envelope{Data, 3, 0, 1, "x"}, "x", api.OK, Out{2, Envelope{Ack, epoch, 3, 1, ""}})
		checkTake(t, s, 2, Envelope{Data, 3, epoch, 2, "y"}, "y", api.OK, Out{2, Envelope{Ack, epoch, 3, 2, ""}})
	}
}

// P14.1: a session that isn't there, and one that nobody made, have no other nodes.
func TestNoSession(t *testing.T) {
	for _, s := range []*Session{nil, {}} {
		for _, n := range append(noOthers(), 1, 3, 4) {
			for _, l := range [][]string{nil, {"a"}, upTo(33)} {
				checkSend(t, s, n, l, api.ErrArg)
			}
			for _, e := range []Envelope{{}, {Data, 7, 0, 1, "x"}, {Data, 7, 5, 1, "x"}, {Ack, 7, 5, 1, ""}} {
				checkTake(t, s, n, e, "", api.ErrArg)
			}
		}
		skip(t, s, 20)
		checkHeld(t, s)
		checkKnown(t, s)
	}
}

// Rule 2: lists that were handed in stay as they were, what was told stays as it was, and neither is what the session has.
func TestListsAreNotShared(t *testing.T) {
	s := met(t)
	l := []string{"a", "b", "c"}
	first, _ := s.Send(1, l...)
	if !slices.Equal(l, []string{"a", "b", "c"}) {
		t.Error("changed:", l)
	}
	clear(l)
	var told [][]Out
	tell := func(l []Out) {
		told = append(told, slices.Clone(l))
		_ = append(l[:0], Out{9, Envelope{Payload: "put where it was told"}})
		clear(l)
	}
	tell(first)
	for range 3 {
		s.Tick()
	}
	tell(s.Tick())
	_, again, _ := s.Take(1, Envelope{Ack, 8, own, 0, ""})
	tell(again)
	for range 3 {
		s.Tick()
	}
	tell(s.Tick())
	for i, out := range told {
		epoch := 7 + i/2
		if want := []Out{dataTo(1, epoch, 1, "a"), dataTo(1, epoch, 2, "b"), dataTo(1, epoch, 3, "c")}; !slices.Equal(out, want) {
			t.Errorf("the list %d: %s", i, brief(out))
		}
	}
}

// within tells whether a text lies in another one's memory.
func within(part, whole string) bool {
	at, from := uintptr(unsafe.Pointer(unsafe.StringData(part))), uintptr(unsafe.Pointer(unsafe.StringData(whole)))
	return part != "" && whole != "" && at >= from && at < from+uintptr(len(whole))
}

// Rule 2: payloads that are told, those that are kept, and those that were handed in share nothing.
func TestPayloadsAreNotShared(t *testing.T) {
	text := strings.Repeat("s", 100)
	s := met(t)
	out, _ := s.Send(1, text[:50], text[50:])
	for range 4 {
		out = append(out, s.Tick()...)
	}
	_, more, _ := s.Take(1, Envelope{Ack, 8, own, 0, ""})
	var told []string // and what is kept
	for _, o := range append(out, more...) {
		told = append(told, o.E.Payload)
	}
	payload, _, _ := s.Take(1, Envelope{Data, 8, own, 1, text})
	bytes, _ := Encode(Envelope{Data, 8, own, 1, text})
	e, _ := Decode(bytes)
	told = append(told, payload, bytes, e.Payload)
	for _, h := range s.peers[0].held {
		told = append(told, h.payload)
	}
	if len(told) != 11 {
		t.Fatal(len(told), "were told")
	}
	for i, x := range told {
		if within(x, text) {
			t.Errorf("%d is a part of what was handed in", i)
		}
		for j, y := range told[:i] {
			if within(x, y) {
				t.Errorf("%d and %d share their bytes", j, i)
			}
		}
	}
}
