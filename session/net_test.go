package session

import (
	"math/rand/v2"
	"strconv"
	"testing"

	"remuda/api"
	"remuda/net"
)

// life is an incarnation of a node.
type life struct{ node, epoch int }

// letter is a payload that was sent, by whom and to whom: to what node, and which incarnation of it was there.
type letter struct {
	text     string
	from, to life
}

// arrival is a letter at an incarnation.
type arrival struct {
	text string
	at   life
}

// world is nodes with sessions and a net among them.
type world struct {
	t        *testing.T
	r        *rand.Rand
	net      *net.Net
	lives    []life
	sessions []*Session
	letters  []letter
	taken    map[arrival]int
	errors   map[api.Errno]int // how many Takes answered so
	lost     int               // packets for which there was no room, or no way
}

func newWorld(t *testing.T, r *rand.Rand, nodes int) *world {
	w := &world{t: t, r: r, lives: make([]life, nodes), sessions: make([]*Session, nodes), taken: map[arrival]int{}, errors: map[api.Errno]int{}}
	w.net, _ = net.New(nodes)
	for i := range nodes {
		w.lives[i] = life{i + 1, r.IntN(5)}
		w.restart(i + 1)
	}
	return w
}

func (w *world) any() int { return 1 + w.r.IntN(len(w.lives)) }

func (w *world) session(node int) *Session { return w.sessions[node-1] }

// restart begins a node anew, with a greater epoch.
func (w *world) restart(node int) {
	w.lives[node-1].epoch += 1 + w.r.IntN(3)
	w.sessions[node-1] = fresh(w.t, node, len(w.lives), w.lives[node-1].epoch)
}

// put puts under way what a node has to send, as bytes.
func (w *world) put(node int, out []Out) {
	for _, o := range out {
		s, e := Encode(o.E)
		if e != api.OK || o.E.Epoch != w.lives[node-1].epoch {
			w.t.Fatalf("node %d puts out %s: %d", node, brief(o), e)
		}
		w.lost += w.net.Send(net.Packet{From: node, To: o.To, Bytes: s})
	}
}

// send sends letters, if there is room, all at once.
func (w *world) send(from, to, many int) {
	if from == to {
		return
	}
	var l []string
	for i := range many {
		l = append(l, "letter "+strconv.Itoa(len(w.letters)+i))
	}
	out, e := w.session(from).Send(to, l...)
	w.put(from, out)
	if e != api.OK {
		return
	}
	for _, text := range l {
		w.letters = append(w.letters, letter{text, w.lives[from-1], w.lives[to-1]})
	}
}

func (w *world) tick(node int) { w.put(node, w.session(node).Tick()) }

// deliver lets the packet at i come.
func (w *world) deliver(i int) {
	p, e := w.net.Take(i)
	if e != api.OK {
		return
	}
	envelope, e := Decode(p.Bytes)
	if e != api.OK {
		w.t.Fatalf("%x came: %d", p.Bytes, e)
	}
	payload, out, e := w.session(p.To).Take(p.From, envelope)
	w.put(p.To, out)
	w.errors[e]++
	if payload == "" {
		return
	}
	if e != api.OK || envelope.Kind != Data {
		w.t.Fatalf("%q is taken of %s: %d", payload, brief(envelope), e)
	}
	w.note(payload, life{p.From, envelope.Epoch}, w.lives[p.To-1])
}

// note notes that a letter is taken, and tells whether it is one that was sent so, and is taken for the first time.
func (w *world) note(text string, from, at life) {
	n, e := strconv.Atoi(text[len("letter "):])
	if e != nil || w.letters[n].from != from || w.letters[n].to.node != at.node {
		w.t.Fatalf("%v takes %q from %v", at, text, from)
	}
	a := arrival{text, at}
	w.taken[a]++
	if w.taken[a] > 1 {
		w.t.Fatalf("%v takes %q %d times", at, text, w.taken[a])
	}
}

// storm lets something happen: letters, time, what the net does, and now and then a node that begins anew.
func (w *world) storm(restarts bool) {
	place := w.r.IntN(w.net.Len() + 1)
	switch x := w.r.IntN(100); {
	case x < 10:
		w.send(w.any(), w.any(), 1+w.r.IntN(4))
	case x < 30:
		w.tick(w.any())
	case x < 60:
		w.deliver(place)
	case x < 75:
		w.deliver(place / 4)
	case x < 85:
		w.net.Take(place)
	case x < 95:
		w.net.Double(place)
	case x < 97:
		w.net.Cut(w.any(), w.any())
	case x < 99:
		w.net.Heal(w.any(), w.any())
	case restarts && w.r.IntN(6) == 0:
		w.restart(w.any())
	}
}

// flush lets all packets come, in any order, but those that the test loses.
func (w *world) flush(loses func(e Envelope) bool) {
	for range 5000 {
		if w.net.Len() == 0 {
			return
		}
		i := w.r.IntN(w.net.Len())
		if e, _ := Decode(w.net.All()[i].Bytes); loses(e) {
			w.net.Take(i)
		} else {
			w.deliver(i)
		}
	}
	w.t.Fatal("the packets come to no end")
}

func none(Envelope) bool { return false }

// calm drops what is under way, and lets time go by and all packets come from then on; behind that nothing is held.
func (w *world) calm() {
	w.net.HealAll()
	w.flush(func(Envelope) bool { return true })
	w.lost = 0
	for range 60 {
		for n := range w.lives {
			w.tick(n + 1)
			w.flush(none)
		}
	}
	if w.lost > 0 {
		w.t.Fatal("the net had no room for", w.lost)
	}
	for a := range w.lives {
		for b := range w.lives {
			if many := w.session(a + 1).Held(b + 1); many != 0 {
				w.t.Errorf("node %d holds %d for node %d", a+1, many, b+1)
			}
		}
	}
}

// checkAllTaken tells whether each letter, whose sender and receiver stayed, is taken by that one, and each whose sender stayed by someone. It is how many had both stay.
func (w *world) checkAllTaken() int {
	by := map[string]int{}
	for a := range w.taken {
		by[a.text]++
	}
	both := 0
	for _, x := range w.letters {
		stays := w.lives[x.from.node-1] == x.from
		if stays && by[x.text] == 0 {
			w.t.Errorf("%v isn't taken", x)
		}
		if stays && w.lives[x.to.node-1] == x.to {
			both++
			if w.taken[arrival{x.text, x.to}] != 1 {
				w.t.Errorf("%v isn't taken by that incarnation", x)
			}
		}
	}
	return both
}

// P14.2: over nets that lose, double, delay and are cut, while nodes begin anew: each payload is taken at most once by an incarnation, and, when all packets come from some time on, all are taken.
func TestOnceOverANet(t *testing.T) {
	r := chance()
	stayed, stale, there := 0, 0, 0
	for run := range 120 {
		w := newWorld(t, r, 2+run%4)
		for range 200 * (1 + run%20) {
			w.storm(run%3 > 0)
		}
		w.calm()
		stayed += w.checkAllTaken()
		stale += w.errors[api.ErrStale]
		there += w.errors[api.ErrThere]
	}
	if stayed < 1000 || stale < 1000 || there < 1000 {
		t.Error("too few of them stayed, were stale, were there:", stayed, stale, there)
	}
}

// P14.2: one that is lost again and again, while all others come, is taken in the end: none of those that are sent on goes so far that it counts as seen.
func TestOneIsLostForLong(t *testing.T) {
	r := chance()
	for at := range 40 {
		w := newWorld(t, r, 2)
		lost := "letter " + strconv.Itoa(at)
		for range 300 {
			w.send(1, 2, 1)
			w.tick(1)
			w.flush(func(e Envelope) bool { return e.Payload == lost })
		}
		if many := len(w.letters); many != at+64 {
			t.Errorf("with the letter %d lost, %d were sent", at, many)
		}
		w.calm()
		if both := w.checkAllTaken(); both != at+64 {
			t.Errorf("with the letter %d lost, of all %d had both stay", at, both)
		}
	}
}

// P14.2: what was under way for long, to or from an elder incarnation, or ahead of it that anybody knew anybody, comes again and again behind all else, and nothing is taken of it that was taken.
func TestEldersComeLate(t *testing.T) {
	r := chance()
	for range 40 {
		w := newWorld(t, r, 2)
		var old []net.Packet
		for range 8 {
			for range 12 {
				w.send(1, 2, 1)
				w.send(2, 1, 1)
				w.tick(1 + r.IntN(2))
				old = append(old, w.net.All()...)
				w.flush(none)
			}
			for range 100 {
				w.net.Send(old[r.IntN(len(old))])
				w.deliver(0)
			}
			w.restart(1 + r.IntN(2))
		}
		w.calm()
		w.checkAllTaken()
	}
}
