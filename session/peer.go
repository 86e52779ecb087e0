package session

import (
	"slices"
	"strings"

	"remuda/api"
	"remuda/window"
)

// maxDelay is the delay that is doubled no more.
const maxDelay = 16

// held is a payload that isn't acknowledged.
type held struct {
	seq     int
	payload string
	delay   int // how many ticks it waits from one time that it goes out to the next
	left    int // how many of them are left
}

// begin lets the delay begin anew.
func (h *held) begin() { h.delay, h.left = api.Resend, api.Resend }

// tick lets a tick go by, and tells whether the payload is to go out again at it.
func (h *held) tick() bool {
	h.left--
	if h.left > 0 {
		return false
	}
	h.delay = min(2*h.delay, maxDelay)
	h.left = h.delay
	return true
}

// peer is what is known of another node: which of its numbers came, and what is held for it.
type peer struct {
	window.Window
	known int    // its epoch; 0: none is known
	last  int    // the number that was given last
	held  []held // by number
}

// room tells whether so many payloads more can be held.
func (p *peer) room(many int) bool {
	if len(p.held)+many > api.MaxOut {
		return false
	}
	// Were the peer's window to go on past one that is held, that one would count as seen there, and never be taken.
	return len(p.held) == 0 || p.last+many < p.held[0].seq+api.Window
}

// hold holds payloads, for which there is room, and tells how they are held.
func (p *peer) hold(l ...string) []held {
	for _, payload := range l {
		p.last++
		h := held{seq: p.last, payload: strings.Clone(payload)}
		h.begin()
		p.held = append(p.held, h)
	}
	return p.held[len(p.held)-len(l):]
}

// letGo lets the payload of a number go, if it is held.
func (p *peer) letGo(seq int) {
	p.held = slices.DeleteFunc(p.held, func(h held) bool { return h.seq == seq })
}

// meet knows a peer's new incarnation, and tells whether an elder one was known: then all that is held is to go out anew.
func (p *peer) meet(epoch int) bool {
	was := p.known
	p.known = epoch
	p.Clear()
	if was == 0 {
		return false
	}
	for i := range p.held {
		p.held[i].begin()
	}
	return true
}

// tick lets a tick go by, and is what is to go out again at it.
func (p *peer) tick() []held {
	var due []held
	for i := range p.held {
		if p.held[i].tick() {
			due = append(due, p.held[i])
		}
	}
	return due
}
