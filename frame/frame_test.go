package frame

import (
	"encoding/binary"
	"hash/crc32"
	"math/rand/v2"
	"slices"
	"strings"
	"testing"
	"unsafe"

	"remuda/api"
)

func chance() *rand.Rand { return rand.New(rand.NewPCG(1, 2)) }

func anyText(r *rand.Rand, n int) string {
	b := make([]byte, n)
	for i := range b {
		b[i] = byte(r.Uint32())
	}
	return string(b)
}

// withLength is what a frame would be if its length were this one: a payload behind a length, and the right sum, made by other means.
func withLength(n int, payload string) string {
	b := binary.BigEndian.AppendUint16(nil, uint16(n))
	b = append(b, payload...)
	return string(binary.LittleEndian.AppendUint32(b, crc32.ChecksumIEEE(b)))
}

// framed is the frame of a payload, made by other means.
func framed(payload string) string { return withLength(len(payload), payload) }

// sealed is the frame of texts that can have one.
func sealed(t *testing.T, l ...string) string {
	t.Helper()
	s, e := Seal(l...)
	if e != api.OK {
		t.Fatalf("Seal of %d texts: %d", len(l), e)
	}
	return s
}

// checkOpened tells whether a text begins with the frame of that payload, and that stands behind it.
func checkOpened(t *testing.T, s, payload, rest string) {
	t.Helper()
	p, more, e := Open(s)
	if p != payload || more != rest || e != api.OK {
		t.Errorf("Open(%.40q) = %.40q, %.40q, %d; want %.40q, %.40q", s, p, more, e, payload, rest)
	}
}

// checkRefused tells whether a text begins with no frame, for that reason, and All finds none either.
func checkRefused(t *testing.T, s string, want api.Errno) {
	t.Helper()
	p, rest, e := Open(s)
	if p != "" || rest != "" || e != want {
		t.Errorf("Open(%.40q), %d bytes, = %.40q, %.40q, %d; want %d", s, len(s), p, rest, e, want)
	}
	checkAll(t, s, nil)
}

// checkAll tells whether the frames of these payloads, and no others, stand at the beginning of a text.
func checkAll(t *testing.T, s string, payloads []string) {
	t.Helper()
	want := 0
	for _, p := range payloads {
		want += len(p) + 6
	}
	l, n := All(s)
	if !slices.Equal(l, payloads) || n != want {
		t.Errorf("All(%.40q) = %d payloads, %d bytes; want %d, %d", s, len(l), n, len(payloads), want)
	}
}

// P3.1: the chapter's example, and frames whose sums are known elsewhere.
func TestKnownFrames(t *testing.T) {
	for payload, want := range map[string]string{
		"":          "\x00\x00\xff\x12\xd9\x41",
		"a":         "\x00\x01a\x9d\xb9\xef\xdc",
		"abc":       "\x00\x03abc\x23\xc0\xf2\x1e",
		"123456789": "\x00\x09123456789\xae\xb7\x6f\xba",
	} {
		if got, e := Seal(payload); got != want || e != api.OK {
			t.Errorf("Seal(%q) = %x, %d; want %x", payload, got, e, want)
		}
		checkOpened(t, want, payload, "")
		checkAll(t, want, []string{payload})
	}
}

// P3.1: no text, and empty ones, make the frame of the empty payload.
func TestSealNothing(t *testing.T) {
	for _, l := range [][]string{nil, {}, {""}, {"", ""}, make([]string, 100000)} {
		if got, e := Seal(l...); got != "\x00\x00\xff\x12\xd9\x41" || e != api.OK {
			t.Errorf("Seal of %d empty texts = %x, %d", len(l), got, e)
		}
	}
}

// P3.1: payloads of every length are framed, and opened again.
func TestEveryLength(t *testing.T) {
	s := anyText(chance(), 4096)
	for n := range 4097 {
		want := framed(s[:n])
		if got, e := Seal(s[:n]); got != want || e != api.OK {
			t.Fatalf("Seal of %d bytes = %.40x, %d; want %.40x", n, got, e, want)
		}
		checkOpened(t, want, s[:n], "")
		checkOpened(t, want+s[:n/2], s[:n], s[:n/2])
	}
}

// P3.1: one payload, handed in as several texts, has one frame, and their order counts.
func TestSealPieces(t *testing.T) {
	s := anyText(chance(), 30)
	want := framed(s)
	for i := 0; i <= len(s); i++ {
		for j := i; j <= len(s); j++ {
			if got := sealed(t, s[:i], s[i:j], s[j:]); got != want {
				t.Errorf("cut at %d and %d: %x, want %x", i, j, got, want)
			}
			if got := sealed(t, "", s[:i], "", s[i:j], "", "", s[j:], ""); got != want {
				t.Errorf("cut at %d and %d, with empty texts: %x, want %x", i, j, got, want)
			}
		}
	}
	if got := sealed(t, strings.Split(s, "")...); got != want {
		t.Errorf("piece by piece: %x, want %x", got, want)
	}
	if got := sealed(t, "c", "", "ab"); got != framed("cab") {
		t.Errorf("in another order: %x", got)
	}
}

// P3.1: 4096 bytes can be framed, one more can't, however they are cut.
func TestSealOfTooMuch(t *testing.T) {
	most := strings.Repeat("x", 4095) + "y"
	for _, l := range [][]string{
		{most}, {"", most, ""}, {most[:1], most[1:]}, {most[:4095], "y"}, {most[:2048], most[2048:]}, strings.Split(most, ""),
	} {
		if got, e := Seal(l...); got != framed(most) || e != api.OK {
			t.Errorf("4096 bytes in %d texts: %d bytes, %d", len(l), len(got), e)
		}
	}
	more := most + "z"
	for _, l := range [][]string{
		{more}, {"", more}, {more, ""}, {"x", most}, {most, "x"}, {more[:2000], more[2000:]}, strings.Split(more, ""),
		{most, most}, {most[:4000], "", most[:97]}, {strings.Repeat("x", 65536)}, {strings.Repeat("x", 65537)},
		{strings.Repeat("x", 1<<16), strings.Repeat("x", 1<<20)}, slices.Repeat([]string{most}, 1<<20),
	} {
		if got, e := Seal(l...); got != "" || e != api.ErrLong {
			t.Errorf("too many bytes in %d texts: %d bytes, %d", len(l), len(got), e)
		}
	}
}

// P3.1: behind a frame may stand anything.
func TestOpenWithBytesBehind(t *testing.T) {
	for _, payload := range []string{"", "a", "abc", strings.Repeat("\x00", 4096)} {
		s := framed(payload)
		for _, rest := range []string{"", "\x00", "more", "\xff\xff\xff\xff\xff\xff\xff", s, s + "x", s[:len(s)-1], strings.Repeat("y", 1<<17)} {
			checkOpened(t, s+rest, payload, rest)
		}
	}
}

// P3.1: each reason for which a text begins with no frame, and which is asked ahead of which.
func TestOpenRefuses(t *testing.T) {
	long := strings.Repeat("x", 70000)
	for _, x := range []struct {
		s    string
		want api.Errno
	}{
		{"", api.ErrShort},
		{"\x00", api.ErrShort},
		{"\x00\x00", api.ErrShort},
		{"\x00\x00\xff\x12\xd9", api.ErrShort},
		{"\xff\xff", api.ErrShort},       // a length that is too great, but fewer than six bytes
		{"\x10\x01aaa", api.ErrShort},    // five bytes
		{"\x10\x01aaaa", api.ErrLong},    // six, and fewer than the length says
		{"\xff\xffaaaa", api.ErrLong},    // the greatest length
		{"\x20\x00" + long, api.ErrLong}, // its low byte is that of a length that may be
		{"\x10\x01" + long, api.ErrLong}, // as many as the length says, and more
		{withLength(4097, long[:4097]), api.ErrLong},
		{withLength(65535, long[:65535]), api.ErrLong},
		{"\x10\x00aaaa", api.ErrShort}, // the greatest length that may be
		{"\x10\x00" + long[:4099], api.ErrShort},
		{"\x10\x00" + long[:4100], api.ErrSum}, // as many as it needs
		{"\x00\x01abcd", api.ErrShort},
		{"\x00\x01abcde", api.ErrSum},
		{"\x00\x00aaaa", api.ErrSum},
		{"\x00\x00\x00\x00\x00\x00", api.ErrSum},
		{"\x00\x00\x41\xd9\x12\xff", api.ErrSum}, // the sum's bytes, the highest first
		{"\x00\x00\xff\x12\xd9\x40", api.ErrSum},
		{"\x00\x00\xfe\x12\xd9\x41", api.ErrSum},
		{"\x01\x00" + framed(strings.Repeat("x", 256))[2:], api.OK},
		{"\x00\x01" + framed(strings.Repeat("x", 256))[2:], api.ErrSum}, // the length's bytes, the lowest first
		{"\x00\x03abc" + string(binary.LittleEndian.AppendUint32(nil, crc32.ChecksumIEEE([]byte("abc")))), api.ErrSum}, // the sum of the payload alone
		{withLength(2, "abc"), api.ErrSum},
		{withLength(4, "abc"), api.ErrShort},
		{withLength(4, "abc") + "x", api.ErrSum},
		{long, api.ErrLong},
	} {
		if x.want == api.OK {
			checkOpened(t, x.s, x.s[2:len(x.s)-4], "")
			continue
		}
		checkRefused(t, x.s, x.want)
	}
}

// P3.1: of a frame of another sum, whatever stands behind it.
func TestOpenOfAnotherSum(t *testing.T) {
	s := framed("abc")
	for i := 2; i < len(s); i++ {
		for b := range 256 {
			if byte(b) == s[i] {
				continue
			}
			x := s[:i] + string([]byte{byte(b)}) + s[i+1:]
			for _, rest := range []string{"", "x", s} {
				checkRefused(t, x+rest, api.ErrSum)
			}
		}
	}
}

// P3.1: All of nothing, of frames one behind the other, and of frames ahead of what is none.
func TestAll(t *testing.T) {
	long := strings.Repeat("x", 4096)
	payloads := []string{"abc", "", "x", "", "", long, framed("inner"), long[:257], "\x00\x00"}
	behind := []string{
		"", "\x00", "\x00\x00", "\x00\x00\xff\x12\xd9",
		framed("abc")[:8], framed(long)[:4101], framed("")[:5],
		"\x00\x00\xff\x12\xd9\x40", framed("abc")[:8] + "\x00\x00\x00\x00\x00\x00\x00\x00", "\x00\x00\x00\x00\x00\x00" + framed("abc"),
		"\x10\x01", withLength(4097, long+"x") + framed("abc"), "\x00" + framed("abc"),
	}
	for i := range payloads {
		for j := i; j <= len(payloads); j++ {
			s := ""
			for _, p := range payloads[i:j] {
				s += framed(p)
			}
			for _, x := range behind {
				checkAll(t, s+x, payloads[i:j])
			}
		}
	}
}

// P3.1: All ends ahead of the first one that is none, at whatever place that stands.
func TestAllEndsAtTheFirstFault(t *testing.T) {
	payloads := []string{"abc", "", "defgh", "i"}
	for i := range payloads {
		for _, spoil := range []func(s string) string{
			func(s string) string { return s[:len(s)-1] + string([]byte{^s[len(s)-1]}) },
			func(s string) string { return s[:2] + string([]byte{^s[2]}) + s[3:] },
			func(s string) string { return "\xff" + s[1:] },
			func(s string) string { return "\x00\x09" + s[2:] },
			func(s string) string { return s[:len(s)-1] },
			func(s string) string { return s[1:] },
		} {
			s := ""
			for j, p := range payloads {
				x := framed(p)
				if i == j {
					x = spoil(x)
				}
				s += x
			}
			checkAll(t, s, payloads[:i])
		}
	}
}

// opened is Open by other means: its payload, how many bytes the frame has, and the error.
func opened(s string) (string, int, api.Errno) {
	if len(s) < 6 {
		return "", 0, api.ErrShort
	}
	n := int(binary.BigEndian.Uint16([]byte(s)))
	switch {
	case n > 4096:
		return "", 0, api.ErrLong
	case len(s)-6 < n:
		return "", 0, api.ErrShort
	case framed(s[2:2+n]) != s[:n+6]:
		return "", 0, api.ErrSum
	}
	return s[2 : 2+n], n + 6, api.OK
}

// P3.1: of texts of any kind, frames with bytes that are changed, put in and left out among them.
func TestAnyTexts(t *testing.T) {
	r := chance()
	met := map[api.Errno]int{}
	for range 100000 {
		b := []byte(anyText(r, r.IntN(8)))
		if r.IntN(4) > 0 {
			b = append([]byte(framed(anyText(r, r.IntN(6)))), b...)
		}
		if len(b) > 0 {
			i := r.IntN(len(b))
			switch r.IntN(5) {
			case 0:
				b[i] = byte(r.IntN(9))
			case 1:
				b = slices.Delete(b, i, i+1)
			case 2:
				b = slices.Insert(b, i, byte(r.IntN(9)))
			}
		}
		s := string(b)
		payload, n, want := opened(s)
		met[want]++
		if want != api.OK {
			checkRefused(t, s, want)
			continue
		}
		checkOpened(t, s, payload, s[n:])
		checkAll(t, s+s[n:], []string{payload})
	}
	for _, e := range []api.Errno{api.OK, api.ErrShort, api.ErrLong, api.ErrSum} {
		if met[e] < 1000 {
			t.Errorf("%d was met %d times only", e, met[e])
		}
	}
}

// P3.1: a great many frames, which All doesn't go through again for each one.
func TestManyFrames(t *testing.T) {
	const many = 1 << 18
	l, n := All(strings.Repeat(framed("")+framed("ab"), many))
	if len(l) != 2*many || n != 14*many {
		t.Fatalf("%d payloads, %d bytes", len(l), n)
	}
	for i, p := range l {
		if p != "ab"[:i%2*2] {
			t.Fatalf("payload %d is %q", i, p)
		}
	}
}

// P3.2: a frame that is cut, at any place, is none, and All ends ahead of it.
func TestCutFrames(t *testing.T) {
	r := chance()
	lengths := []int{0, 1, 2, 3, 4, 5, 6, 7, 40, 255, 256, 257, 4095, 4096}
	for _, n := range lengths {
		p := anyText(r, n)
		for _, payload := range []string{p, strings.Repeat("\x00", n), strings.Repeat("\xff", n)} {
			s := framed(payload)
			for i := range s {
				checkRefused(t, s[:i], api.ErrShort)
			}
			for i := 0; i < len(s); i += 1 + len(s)/50 {
				checkAll(t, framed("ahead")+s[:i], []string{"ahead"})
			}
		}
	}
}

// turned is s with bits turned: bit i of bits is the bit at place from+i of s. The places of a byte go from its lowest bit to its highest one, as the reflected sum takes them.
func turned(s string, from int, bits uint32) string {
	b := []byte(s)
	for i := range 32 {
		if bits>>i&1 == 1 {
			b[(from+i)/8] ^= 1 << ((from + i) % 8)
		}
	}
	return string(b)
}

// checkTurned tells whether no frame of which bits are turned ends where it ended.
func checkTurned(t *testing.T, s string, from int, bits uint32, rest string) {
	t.Helper()
	x := turned(s, from, bits)
	if x == s {
		return
	}
	if x[:2] == s[:2] { // its length is what it was
		checkRefused(t, x+rest, api.ErrSum)
		checkAll(t, framed("ahead")+x+rest, []string{"ahead"})
		return
	}
	p, more, e := Open(x + rest)
	if e == api.OK && len(p) == len(s)-6 || e == api.OK && len(more) == len(rest) {
		t.Errorf("%x, bits %08x turned from %d on, ends where it ended", s, bits, from)
	}
	if l, _ := All(x + rest); len(l) > 0 && len(l[0]) == len(s)-6 {
		t.Errorf("%x, bits %08x turned from %d on: All finds it", s, bits, from)
	}
}

// eachSpan calls f for frames of payloads of 0 to 9 bytes and each span of up to 32 bits in them that can't go on to the right.
func eachSpan(f func(s string, from, width int)) {
	r := chance()
	for n := range 10 {
		s := framed(anyText(r, n))
		for from := range 8 * len(s) {
			f(s, from, min(32, 8*len(s)-from))
		}
	}
}

// P3.2: all pairs of bits, all runs of bits, and many other patterns, in the length, the payload and the sum, and across their borders.
func TestTurnedBits(t *testing.T) {
	r := chance()
	eachSpan(func(s string, from, width int) {
		all := uint32(1<<width - 1)
		for i := range width {
			for j := range width {
				checkTurned(t, s, from, 1<<i|1<<j, "")
			}
			checkTurned(t, s, from, all>>i, s)
			checkTurned(t, s, from, all<<i&all, s)
		}
		for range 50 {
			checkTurned(t, s, from, r.Uint32()&all, anyText(r, r.IntN(12)))
		}
	})
}

// P3.2: in the longest frame, at each of its ends and in its midst.
func TestTurnedBitsOfALongFrame(t *testing.T) {
	r := chance()
	s := framed(anyText(r, 4096))
	places := []int{8 * 2000}
	for i := range 48 {
		places = append(places, i, 8*len(s)-32-i)
	}
	for _, from := range places {
		checkTurned(t, s, from, 1, "")
		checkTurned(t, s, from, 1<<31|1, "x")
		checkTurned(t, s, from, r.Uint32()|1, s)
	}
}

// P3.2: of whole bytes, four that follow one another may be any others.
func TestTurnedBytes(t *testing.T) {
	r := chance()
	for n := range 10 {
		s := framed(anyText(r, n))
		for at := range len(s) - 3 {
			for range 300 {
				checkTurned(t, s, 8*at, r.Uint32(), s)
			}
		}
	}
}

// P3.2: each length that is made another one: what is found then, if anything, ends elsewhere.
func TestTurnedLengths(t *testing.T) {
	r := chance()
	for _, n := range []int{0, 1, 5, 300} {
		s := framed(anyText(r, n))
		rest := anyText(r, 4200)
		for bits := range uint32(65536) {
			checkTurned(t, s, 0, bits, rest)
		}
	}
	// A frame that begins as another one, and is one itself, with the other length.
	inner := framed("abc")
	s := framed(inner[2:])
	if p, rest, e := Open(inner[:2] + s[2:]); p != "abc" || rest != s[2+7:] || e != api.OK {
		t.Errorf("%q, %q, %d", p, rest, e)
	}
}

// sumIn is a frame's sum, as a number.
func sumIn(s string) uint32 { return binary.LittleEndian.Uint32([]byte(s[len(s)-4:])) }

// P3.2, for every pattern at once, where the length stays what it is: a bit that is turned in the payload asks for another sum, one in the sum gives another one, and no choice of those within 32 makes both the same.
func TestNoChoiceOfTurnedBitsMakesAFrame(t *testing.T) {
	eachSpan(func(s string, from, width int) {
		if from < 16 {
			return
		}
		var lead [32]uint32 // changes with different highest bits, by these
		for i := range width {
			x := turned(s, from+i, 1)
			change := sumIn(sealed(t, x[2:len(x)-4])) ^ sumIn(x)
			for b := 31; b >= 0 && change != 0; b-- {
				if change>>b&1 == 0 {
					continue
				}
				if lead[b] == 0 {
					lead[b] = change
					break
				}
				change ^= lead[b]
			}
			if change == 0 {
				t.Errorf("%x: a choice of the bits from %d to %d makes a frame again", s, from, from+i)
			}
		}
	})
}

// within tells whether a text lies in another one's memory.
func within(part, whole string) bool {
	if part == "" || whole == "" {
		return false
	}
	at, from := uintptr(unsafe.Pointer(unsafe.StringData(part))), uintptr(unsafe.Pointer(unsafe.StringData(whole)))
	return at >= from && at < from+uintptr(len(whole))
}

// Rule 2: what is answered shares no memory with what was handed in, and lists stay as they were.
func TestNothingIsShared(t *testing.T) {
	l := []string{"ab", "", "c"}
	s := sealed(t, l...)
	if !slices.Equal(l, []string{"ab", "", "c"}) {
		t.Errorf("the list is now %q", l)
	}
	s += s
	p, rest, _ := Open(s)
	if within(p, s) || within(rest, s) {
		t.Error("Open answers a part of what was handed in")
	}
	all, _ := All(s)
	for _, p := range all {
		if within(p, s) {
			t.Error("All answers a part of what was handed in")
		}
	}
	all[0] = "x"
	checkAll(t, s, []string{"abc", "abc"})
}

// Rule 5: nothing hangs on earlier calls.
func TestTheSameAgain(t *testing.T) {
	s := framed("abc")
	for range 3 {
		if sealed(t, "a", "bc") != s {
			t.Error("another frame the next time")
		}
		checkOpened(t, s+"x", "abc", "x")
		checkRefused(t, s[:8], api.ErrShort)
		checkAll(t, s+s, []string{"abc", "abc"})
	}
}
