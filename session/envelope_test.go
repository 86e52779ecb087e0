package session

import (
	"encoding/binary"
	"math"
	"math/rand/v2"
	"strings"
	"testing"

	"remuda/api"
)

const (
	last     = 1 << 40 // the greatest epoch, and the greatest number
	longest  = 4032    // how many bytes a payload may have
	zeroText = "\x00\x00"
)

func chance() *rand.Rand { return rand.New(rand.NewPCG(1, 2)) }

func num8(l ...int) string {
	var b []byte
	for _, n := range l {
		b = binary.BigEndian.AppendUint64(b, uint64(n))
	}
	return string(b)
}

func text(s string) string {
	return string(binary.BigEndian.AppendUint16(nil, uint16(len(s)))) + s
}

// bytesOf is an envelope's bytes, right or not, by the chapter's words.
func bytesOf(e Envelope) string {
	s := string([]byte{byte(e.Kind)}) + num8(e.Epoch, e.Peer, e.Seq)
	if e.Kind == 1 || e.Payload != "" {
		s += text(e.Payload)
	}
	return s
}

// rights is right envelopes, those at the limits too.
func rights() []Envelope {
	var l []Envelope
	for _, epoch := range []int{1, 2, 255, 256, 1 << 32, last - 1, last} {
		for _, peer := range []int{0, 1, 3, 1<<32 + 1, last - 1, last} {
			for _, seq := range []int{1, 2, 64, 1 << 31, last - 1, last} {
				l = append(l, Envelope{Data, epoch, peer, seq, "ab"}, Envelope{Ack, epoch, peer, seq, ""})
			}
			l = append(l, Envelope{Ack, epoch, peer, 0, ""}, Envelope{Data, epoch, peer, 1, ""})
		}
	}
	for _, n := range []int{1, 255, 256, longest - 1, longest} {
		l = append(l, Envelope{Data, 4, 9, 2, strings.Repeat("x", n)})
	}
	return append(l, Envelope{Data, 4, 9, 2, "\x00\xff\xc3\n"})
}

// wrongNums is numbers that are too great or too small for all fields.
func wrongNums() []int {
	return []int{-1, -2, -last, math.MinInt, math.MinInt + 1, last + 1, last + 2, 2 * last, math.MaxInt}
}

// wrongs is envelopes that aren't right, each for one reason alone.
func wrongs() []Envelope {
	var l []Envelope
	for _, kind := range []int{0, 3, 4, 255, -1, 256, 257, 258, 1<<32 + 1, 1<<32 + 2, math.MinInt, math.MinInt + 1, math.MaxInt} {
		l = append(l, Envelope{kind, 4, 9, 2, ""}, Envelope{kind, 4, 9, 2, "x"})
	}
	for _, n := range wrongNums() {
		l = append(l, Envelope{Data, n, 9, 2, "x"}, Envelope{Ack, n, 9, 2, ""})
		l = append(l, Envelope{Data, 4, n, 2, "x"}, Envelope{Ack, 4, n, 2, ""})
		l = append(l, Envelope{Data, 4, 9, n, "x"}, Envelope{Ack, 4, 9, n, ""})
	}
	l = append(l, Envelope{}, Envelope{Data, 0, 9, 2, "x"}, Envelope{Ack, 0, 9, 2, ""}, Envelope{Data, 4, 9, 0, "x"})
	for _, n := range []int{longest + 1, longest + 2, 4096, 4097, 65535, 65536, 65537, 100000} {
		l = append(l, Envelope{Data, 4, 9, 2, strings.Repeat("x", n)})
	}
	return append(l, Envelope{Ack, 4, 9, 2, "x"}, Envelope{Ack, 4, 9, 0, strings.Repeat("x", longest)}, Envelope{Ack, 4, 9, 2, "\x00"})
}

// checkForm tells whether bytes are no envelope's.
func checkForm(t *testing.T, s string) {
	t.Helper()
	if e, err := Decode(s); err != api.ErrForm || e != (Envelope{}) {
		t.Errorf("Decode of %d bytes, %x: %+v and %d", len(s), s[:min(len(s), 60)], e, err)
	}
}

func checkRight(t *testing.T, e Envelope) {
	t.Helper()
	if !Right(e) {
		t.Errorf("%+v isn't right", e)
	}
	s, err := Encode(e)
	if s != bytesOf(e) || err != api.OK {
		t.Errorf("Encode of %+v: %x and %d", e, s, err)
	}
	if got, err := Decode(bytesOf(e)); got != e || err != api.OK {
		t.Errorf("Decode of %+v's bytes: %+v and %d", e, got, err)
	}
}

func checkWrong(t *testing.T, e Envelope) {
	t.Helper()
	if Right(e) {
		t.Errorf("%+v is right", e)
	}
	if s, err := Encode(e); s != "" || err != api.ErrArg {
		t.Errorf("Encode of %+v: %x and %d", e, s, err)
	}
	if e.Kind == int(byte(e.Kind)) && len(e.Payload) <= 65535 { // else the bytes are another one's
		checkForm(t, bytesOf(e))
	}
}

// P14.1: which envelopes are right, their bytes, and what these come to.
func TestRightAndWrong(t *testing.T) {
	for _, e := range rights() {
		checkRight(t, e)
	}
	for _, e := range wrongs() {
		checkWrong(t, e)
	}
}

// P14.1: the bytes of one of each kind, one by one.
func TestBytesOfEach(t *testing.T) {
	d := "\x01" + "\x00\x00\x00\x00\x00\x00\x00\x04" + "\x00\x00\x00\x00\x00\x00\x01\x02" + "\x00\x00\x01\x00\x00\x00\x00\x00" + "\x00\x03abc"
	if s, e := Encode(Envelope{Data, 4, 258, 1 << 40, "abc"}); s != d || e != api.OK {
		t.Errorf("Data: %x, %d", s, e)
	}
	a := "\x02" + "\x00\x00\x00\x00\x00\x00\x00\x04" + "\x00\x00\x00\x00\x00\x00\x00\x00" + "\x00\x00\x00\x00\x00\x00\x00\x07"
	if s, e := Encode(Envelope{Ack, 4, 0, 7, ""}); s != a || e != api.OK {
		t.Errorf("Ack: %x, %d", s, e)
	}
}

// P14.1: bytes that end too early, go on too long, or have the wrong count of the payload's.
func TestWrongLengths(t *testing.T) {
	for _, e := range []Envelope{{Data, 4, 9, 2, "abc"}, {Data, 4, 9, 2, ""}, {Ack, 4, 9, 2, ""}, {Ack, 4, 9, 0, ""}} {
		s := bytesOf(e)
		for i := range s {
			checkForm(t, s[:i])
		}
		for _, more := range []string{"\x00", "a", zeroText, s} {
			checkForm(t, s+more)
		}
	}
	head := bytesOf(Envelope{Data, 4, 9, 2, ""})[:25]
	for _, n := range []int{0, 1, 2, 4, 5, 256, 259, 65535} {
		checkForm(t, head+string([]byte{byte(n >> 8), byte(n)})+"abc")
	}
	checkForm(t, bytesOf(Envelope{Ack, 4, 9, 2, ""})+zeroText)
	checkForm(t, "\x01"+bytesOf(Envelope{Ack, 4, 9, 2, ""})[1:])
}

// P14.1: there are two kinds alone.
func TestEachKindByte(t *testing.T) {
	for kind := range 256 {
		a, d := bytesOf(Envelope{Ack, 4, 9, 2, ""}), bytesOf(Envelope{Data, 4, 9, 2, "x"})
		if kind != 1 {
			checkForm(t, string([]byte{byte(kind)})+d[1:])
		}
		if kind != 2 {
			checkForm(t, string([]byte{byte(kind)})+a[1:])
		}
	}
}

// P14.1: bytes of any kind: those that are an envelope's are what that one comes to again.
func TestAnyBytes(t *testing.T) {
	r := chance()
	l := rights()
	good := 0
	for range 200000 {
		s := []byte(bytesOf(l[r.IntN(len(l))]))
		for range r.IntN(3) {
			s[r.IntN(min(len(s), 30))] = byte(r.IntN(1 + r.IntN(256)))
		}
		e, err := Decode(string(s))
		if err == api.OK {
			good++
			if again, err := Encode(e); again != string(s) || err != api.OK || !Right(e) {
				t.Errorf("%x: %+v, and of that %x, %d", s, e, again, err)
			}
		} else if err != api.ErrForm || e != (Envelope{}) {
			t.Errorf("%x: %+v and %d", s, e, err)
		}
	}
	if good < 50000 || good > 190000 {
		t.Error("were good:", good)
	}
}
