package crc

import (
	"math/rand/v2"
	"slices"
	"testing"
)

// divided is the sum by its definition, a bit at a time: what the package is held against.
func divided(sum uint32, s string) uint32 {
	rest := ^sum
	for i := 0; i < len(s); i++ {
		rest ^= uint32(s[i])
		for range 8 {
			low := rest & 1
			rest >>= 1
			if low == 1 {
				rest ^= 0xEDB88320
			}
		}
	}
	return ^rest
}

func chance() *rand.Rand { return rand.New(rand.NewPCG(1, 2)) }

func anyText(r *rand.Rand, n int) string {
	b := make([]byte, n)
	for i := range b {
		b[i] = byte(r.Uint32())
	}
	return string(b)
}

// P1.1: the chapter's examples, and sums that are known elsewhere.
func TestKnownSums(t *testing.T) {
	for _, x := range []struct {
		s    string
		want uint32
	}{
		{"123456789", 0xCBF43926},
		{"a", 0xE8B7BE43},
		{"abc", 0x352441C2},
		{"\x00", 0xD202EF8D},
		{"\x00\x00\x00\x00", 0x2144DF1C},
		{"\xff\xff\xff\xff", 0xFFFFFFFF},
		{"\x00\x00", 0x41D912FF}, // the frame of the empty payload ends with it
		{"The quick brown fox jumps over the lazy dog", 0x414FA339},
	} {
		if got := Sum(x.s); got != x.want {
			t.Errorf("Sum(%q) = %08X, want %08X", x.s, got, x.want)
		}
	}
	if got := Sum("1234", "56789"); got != 0xCBF43926 {
		t.Errorf("Sum of two pieces = %08X", got)
	}
}

// P1.1: no text, no list and empty texts.
func TestSumOfNothing(t *testing.T) {
	for _, l := range [][]string{nil, {}, {""}, {"", ""}, {"", "", ""}} {
		if got := Sum(l...); got != 0 {
			t.Errorf("Sum(%q) = %08X, want 0", l, got)
		}
	}
}

// P1.1: every byte, and texts of many lengths.
func TestSumIsTheRestOfTheDivision(t *testing.T) {
	for b := range 256 {
		s := string([]byte{byte(b)})
		if got, want := Sum(s), divided(0, s); got != want {
			t.Errorf("Sum(%q) = %08X, want %08X", s, got, want)
		}
	}
	r := chance()
	for n := range 300 {
		s := anyText(r, n)
		if got, want := Sum(s), divided(0, s); got != want {
			t.Errorf("of %d bytes: %08X, want %08X", n, got, want)
		}
	}
	s := anyText(r, 1<<20)
	if got, want := Sum(s), divided(0, s); got != want {
		t.Errorf("of a long text: %08X, want %08X", got, want)
	}
}

// P1.1: it is one sum, wherever the bytes are cut, and however many empty texts stand between.
func TestSumOfPieces(t *testing.T) {
	s := anyText(chance(), 40)
	want := divided(0, s)
	for i := 0; i <= len(s); i++ {
		for j := i; j <= len(s); j++ {
			if got := Sum(s[:i], s[i:j], s[j:]); got != want {
				t.Errorf("cut at %d and %d: %08X, want %08X", i, j, got, want)
			}
			if got := Sum("", s[:i], "", "", s[i:j], s[j:], ""); got != want {
				t.Errorf("cut at %d and %d, with empty texts: %08X, want %08X", i, j, got, want)
			}
		}
	}
	var bytes []string
	for i := range len(s) {
		bytes = append(bytes, s[i:i+1])
	}
	if got := Sum(bytes...); got != want {
		t.Errorf("byte by byte: %08X, want %08X", got, want)
	}
}

// P1.1: the texts' order counts.
func TestSumOfPiecesInTheirOrder(t *testing.T) {
	if got, want := Sum("56789", "1234"), divided(0, "567891234"); got != want || got == 0xCBF43926 {
		t.Errorf("Sum of the pieces turned round = %08X, want %08X", got, want)
	}
}

// P1.1: More goes on from the sum of bytes that it never saw.
func TestMoreGoesOn(t *testing.T) {
	s := anyText(chance(), 40)
	want := divided(0, s)
	for i := 0; i <= len(s); i++ {
		for j := i; j <= len(s); j++ {
			if got := More(Sum(s[:i]), s[i:j], s[j:]); got != want {
				t.Errorf("behind %d bytes, cut at %d: %08X, want %08X", i, j, got, want)
			}
			if got := More(More(More(0, s[:i]), "", s[i:j]), s[j:]); got != want {
				t.Errorf("in steps, cut at %d and %d: %08X, want %08X", i, j, got, want)
			}
		}
	}
}

// P1.1: More from any sum on: each number of 32 bits is the sum of some bytes.
func TestMoreFromAnySum(t *testing.T) {
	r := chance()
	sums := []uint32{0, 1, 0x7FFFFFFF, 0x80000000, 0xFFFFFFFE, 0xFFFFFFFF, 0xEDB88320, 0xCBF43926}
	for range 200 {
		sums = append(sums, r.Uint32())
	}
	for _, sum := range sums {
		for _, l := range [][]string{nil, {}, {""}, {"", ""}} {
			if got := More(sum, l...); got != sum {
				t.Errorf("More(%08X, %q) = %08X", sum, l, got)
			}
		}
		for n := range 12 {
			s := anyText(r, n)
			if got, want := More(sum, s[:n/2], "", s[n/2:]), divided(sum, s); got != want {
				t.Errorf("More(%08X, %q) = %08X, want %08X", sum, s, got, want)
			}
		}
	}
}

// Rules 2 and 5: the list stays as it was, and a sum doesn't hang on earlier calls.
func TestNothingIsWrittenOrKept(t *testing.T) {
	l := []string{"1234", "", "56789"}
	for range 3 {
		if Sum(l...) != 0xCBF43926 || More(Sum("x"), l...) != divided(0, "x123456789") {
			t.Error("another sum the next time")
		}
	}
	if !slices.Equal(l, []string{"1234", "", "56789"}) {
		t.Errorf("the list is now %q", l)
	}
}

// turned is s with bits turned: bit i of bits is the bit at place from+i of s. The places of a byte go from its lowest bit to its highest one, as the reflected sum takes them.
func turned(s string, from int, bits uint32) string {
	b := []byte(s)
	for i := range 32 {
		if bits>>i&1 == 1 {
			b[(from+i)/8] ^= 1 << ((from + i) % 8)
		}
	}
	return string(b)
}

// eachSpan calls f for texts of 1 to 12 bytes and each span of up to 32 bits in them that can't go on to the right.
func eachSpan(f func(s string, from, width int)) {
	r := chance()
	for n := 1; n <= 12; n++ {
		s := anyText(r, n)
		for from := range 8 * n {
			f(s, from, min(32, 8*n-from))
		}
	}
}

// P1.2: all pairs of bits, all runs of bits, and many other patterns.
func TestTurnedBitsChangeTheSum(t *testing.T) {
	r := chance()
	eachSpan(func(s string, from, width int) {
		was := Sum(s)
		check := func(bits uint32) {
			if bits != 0 && Sum(turned(s, from, bits)) == was {
				t.Errorf("%q: bits %08X turned from %d on: the same sum", s, bits, from)
			}
		}
		all := uint32(1<<width - 1)
		for i := range width {
			for j := range width {
				check(1<<i | 1<<j)
			}
			check(all >> i)
			check(all << i & all)
		}
		for range 200 {
			check(r.Uint32() & all)
		}
	})
}

// P1.2, for every pattern at once: bits that are turned change the sum by what each of them does alone, and no choice of these cancels itself out.
func TestNoChoiceOfTurnedBitsKeepsTheSum(t *testing.T) {
	eachSpan(func(s string, from, width int) {
		was := Sum(s)
		var lead [32]uint32 // changes with different highest bits, by these
		for i := range width {
			change := Sum(turned(s, from, 1<<i)) ^ was
			for b := 31; b >= 0 && change != 0; b-- {
				if change>>b&1 == 0 {
					continue
				}
				if lead[b] == 0 {
					lead[b] = change
					break
				}
				change ^= lead[b]
			}
			if change == 0 {
				t.Errorf("%q: bits from %d to %d: a choice of them keeps the sum", s, from, from+i)
			}
		}
	})
}

// P1.2, and why it ends at 32: turned by the divisor, which is 33 bits wide, bytes keep their sum.
func TestTheDivisorKeepsTheSum(t *testing.T) {
	s := anyText(chance(), 5)
	b := []byte(turned(s, 1, 0xEDB88320))
	b[0] ^= 1
	if Sum(string(b)) != Sum(s) {
		t.Error("turned by the divisor: another sum")
	}
}

// P1.2: wherever the bytes are cut, and behind whatever sum.
func TestTurnedBitsInPieces(t *testing.T) {
	r := chance()
	for range 2000 {
		s, sum := anyText(r, 9), r.Uint32()
		x := turned(s, r.IntN(41), r.Uint32()|1)
		cut := r.IntN(10)
		if More(sum, s) == More(sum, x[:cut], x[cut:]) {
			t.Errorf("behind %08X: %q and %q have one sum", sum, s, x)
		}
	}
}
