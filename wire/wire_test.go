package wire

import (
	"encoding/binary"
	"math"
	"math/rand/v2"
	"slices"
	"strings"
	"testing"

	"remuda/api"
)

func chance() *rand.Rand { return rand.New(rand.NewPCG(1, 2)) }

// checkPut tells whether that, and nothing else, was put.
func checkPut(t *testing.T, what string, w *Writer, want string) {
	t.Helper()
	if got := w.String(); got != want || w.Bad() {
		t.Errorf("%s: %q, bad %v; want %q", what, got, w.Bad(), want)
	}
}

// checkBroken tells whether a reader is broken: it reads zero values, of every kind, from then on.
func checkBroken(t *testing.T, what string, r *Reader) {
	t.Helper()
	for range 2 {
		if r.Left() != 0 || r.End() != api.ErrForm {
			t.Errorf("%s: Left %d, End %d", what, r.Left(), r.End())
		}
		if r.Byte() != 0 || r.Bool() || r.Count() != 0 || r.Num() != 0 || r.Text() != "" {
			t.Errorf("%s: it reads more than zero values", what)
		}
	}
}

// P2.1: a Writer that has put nothing, and puts of nothing.
func TestNothingIsPut(t *testing.T) {
	var w Writer
	checkPut(t, "the zero value", &w, "")
	w.Byte()
	w.Nums()
	w.Byte([]byte{}...)
	w.Nums([]int{}...)
	checkPut(t, "empty lists", &w, "")
}

// P2.1: the chapter's examples, and each kind's bytes.
func TestPutBytes(t *testing.T) {
	for _, x := range []struct {
		what string
		put  func(w *Writer)
		want string
	}{
		{"Nums(1, -1)", func(w *Writer) { w.Nums(1, -1) }, "\x00\x00\x00\x00\x00\x00\x00\x01\xff\xff\xff\xff\xff\xff\xff\xff"},
		{`Text("ab")`, func(w *Writer) { w.Text("ab") }, "\x00\x02ab"},
		{"a byte", func(w *Writer) { w.Byte(0) }, "\x00"},
		{"bytes", func(w *Writer) { w.Byte(255, 0, 128, 1) }, "\xff\x00\x80\x01"},
		{"true", func(w *Writer) { w.Bool(true) }, "\x01"},
		{"false", func(w *Writer) { w.Bool(false) }, "\x00"},
		{"Count(0)", func(w *Writer) { w.Count(0) }, "\x00\x00"},
		{"Count(1)", func(w *Writer) { w.Count(1) }, "\x00\x01"},
		{"Count(255)", func(w *Writer) { w.Count(255) }, "\x00\xff"},
		{"Count(256)", func(w *Writer) { w.Count(256) }, "\x01\x00"},
		{"Count(65535)", func(w *Writer) { w.Count(65535) }, "\xff\xff"},
		{"Nums(0)", func(w *Writer) { w.Nums(0) }, "\x00\x00\x00\x00\x00\x00\x00\x00"},
		{"each byte of a number", func(w *Writer) { w.Nums(0x0102030405060708) }, "\x01\x02\x03\x04\x05\x06\x07\x08"},
		{"the greatest number", func(w *Writer) { w.Nums(math.MaxInt) }, "\x7f\xff\xff\xff\xff\xff\xff\xff"},
		{"the least number", func(w *Writer) { w.Nums(math.MinInt) }, "\x80\x00\x00\x00\x00\x00\x00\x00"},
		{"-2", func(w *Writer) { w.Nums(-2) }, "\xff\xff\xff\xff\xff\xff\xff\xfe"},
		{"the empty text", func(w *Writer) { w.Text("") }, "\x00\x00"},
		{"a text that is no UTF-8", func(w *Writer) { w.Text("\xff\x00\xc3") }, "\x00\x03\xff\x00\xc3"},
		{"a text of runes", func(w *Writer) { w.Text("\u00e9") }, "\x00\x02\xc3\xa9"},
	} {
		var w Writer
		x.put(&w)
		checkPut(t, x.what, &w, x.want)
		x.put(&w)
		checkPut(t, x.what+", behind itself", &w, x.want+x.want)
	}
}

// P2.1: each call puts behind what was put.
func TestPutsStandInTheirOrder(t *testing.T) {
	var w Writer
	w.Text("z")
	w.Byte(9)
	w.Bool(true)
	w.Count(770)
	w.Nums(5)
	w.Bool(false)
	w.Byte(8, 7)
	checkPut(t, "all kinds", &w, "\x00\x01z\x09\x01\x03\x02\x00\x00\x00\x00\x00\x00\x00\x05\x00\x08\x07")
}

// P2.1: the longest text, and one of a byte more.
func TestLongTexts(t *testing.T) {
	s := strings.Repeat("x", 65534) + "y"
	var w Writer
	w.Text(s)
	checkPut(t, "65535 bytes", &w, "\xff\xff"+s)
	r := NewReader(w.String())
	if r.Text() != s || r.End() != api.OK {
		t.Error("65535 bytes aren't read again")
	}
	w.Text(s + "z")
	if !w.Bad() || w.String() != "" {
		t.Error("65536 bytes were put")
	}
}

// P2.1: what can't be put makes a Writer bad, whatever was put ahead of it and is put behind it.
func TestBadWriters(t *testing.T) {
	bad := map[string]func(w *Writer){
		"Count(-1)":           func(w *Writer) { w.Count(-1) },
		"Count(65536)":        func(w *Writer) { w.Count(65536) },
		"Count(65536 + 7)":    func(w *Writer) { w.Count(65536 + 7) },
		"Count(-65535)":       func(w *Writer) { w.Count(-65535) },
		"Count(1 << 40)":      func(w *Writer) { w.Count(1 << 40) },
		"the greatest Count":  func(w *Writer) { w.Count(math.MaxInt) },
		"the least Count":     func(w *Writer) { w.Count(math.MinInt) },
		"Text of 65536 bytes": func(w *Writer) { w.Text(strings.Repeat("x", 65536)) },
		"Text of 65536 * 2":   func(w *Writer) { w.Text(strings.Repeat("x", 2*65536)) },
	}
	good := []func(w *Writer){
		func(w *Writer) {},
		func(w *Writer) { w.Byte(1, 2) },
		func(w *Writer) { w.Bool(true) },
		func(w *Writer) { w.Count(3) },
		func(w *Writer) { w.Nums(4, 5) },
		func(w *Writer) { w.Text("six") },
		func(w *Writer) { w.Text("") },
	}
	for what, put := range bad {
		for _, ahead := range good {
			for _, behind := range good {
				var w Writer
				ahead(&w)
				put(&w)
				if !w.Bad() || w.String() != "" {
					t.Errorf("%s: bad %v, %q", what, w.Bad(), w.String())
				}
				behind(&w)
				if !w.Bad() || w.String() != "" {
					t.Errorf("%s, and something behind: bad %v, %q", what, w.Bad(), w.String())
				}
				put(&w)
				if !w.Bad() || w.String() != "" {
					t.Errorf("%s twice: bad %v, %q", what, w.Bad(), w.String())
				}
			}
		}
	}
}

// P2.1: one Writer that is bad makes no other one so.
func TestWritersStandApart(t *testing.T) {
	var a, b Writer
	a.Byte(1)
	b.Byte(2)
	a.Count(-1)
	b.Byte(3)
	if !a.Bad() || a.String() != "" {
		t.Error("the bad one is good")
	}
	checkPut(t, "the other one", &b, "\x02\x03")
}

// P2.1: a Reader reads each kind, from the left, and tells how much is left.
func TestReaderReads(t *testing.T) {
	r := NewReader("\x07\x01\x00\x01\x02\x7f\xff\xff\xff\xff\xff\xff\xff\x80\x00\x00\x00\x00\x00\x00\x00\x00\x03a\x00c\x00\x00\xff\xff")
	left := func(want int) {
		t.Helper()
		if got := r.Left(); got != want {
			t.Errorf("Left = %d, want %d", got, want)
		}
		if got := r.End(); got != api.ErrLong {
			t.Errorf("End = %d with %d left", got, want)
		}
	}
	left(30)
	if r.Byte() != 7 {
		t.Error("a byte")
	}
	left(29)
	if !r.Bool() {
		t.Error("true")
	}
	left(28)
	if r.Bool() {
		t.Error("false")
	}
	left(27)
	if r.Count() != 258 {
		t.Error("a count")
	}
	left(25)
	if r.Num() != math.MaxInt {
		t.Error("the greatest number")
	}
	left(17)
	if r.Num() != math.MinInt {
		t.Error("the least number")
	}
	left(9)
	if r.Text() != "a\x00c" {
		t.Error("a text")
	}
	left(4)
	if r.Text() != "" {
		t.Error("the empty text")
	}
	left(2)
	if r.Count() != 65535 {
		t.Error("the greatest count")
	}
	if r.Left() != 0 || r.End() != api.OK {
		t.Errorf("at the end: Left %d, End %d", r.Left(), r.End())
	}
}

// P2.1: every byte, as a byte and as a truth.
func TestEveryByte(t *testing.T) {
	for b := range 256 {
		s := string([]byte{byte(b)})
		r := NewReader(s)
		if got := r.Byte(); int(got) != b || r.End() != api.OK {
			t.Errorf("byte %d is read as %d", b, got)
		}
		r = NewReader(s + "\x01")
		if got := r.Bool(); got != (b == 1) {
			t.Errorf("byte %d is read as the truth %v", b, got)
		}
		if b > 1 {
			checkBroken(t, "a truth that is neither 0 nor 1", r)
		} else if r.Left() != 1 || r.End() != api.ErrLong || !r.Bool() || r.End() != api.OK {
			t.Errorf("behind the truth %d: not read on", b)
		}
	}
}

// P2.1: End and Left change nothing, and can be asked at any time.
func TestEnd(t *testing.T) {
	r := NewReader("")
	for range 3 {
		if r.Left() != 0 || r.End() != api.OK {
			t.Errorf("of the empty text: Left %d, End %d", r.Left(), r.End())
		}
	}
	r = NewReader("ab")
	for range 3 {
		if r.Left() != 2 || r.End() != api.ErrLong {
			t.Errorf("ahead of reading: Left %d, End %d", r.Left(), r.End())
		}
	}
	if r.Byte() != 'a' || r.End() != api.ErrLong || r.Byte() != 'b' || r.End() != api.OK {
		t.Error("bytes read up to the end")
	}
	if r.Byte() != 0 {
		t.Error("a byte behind the end")
	}
	checkBroken(t, "behind the end", r)
}

var reads = []struct {
	what  string
	bytes string
	read  func(r *Reader) bool // whether something else than the zero value is read
}{
	{"Byte", "\x01", func(r *Reader) bool { return r.Byte() != 0 }},
	{"Bool", "\x01", func(r *Reader) bool { return r.Bool() }},
	{"Count", "\x01\x01", func(r *Reader) bool { return r.Count() != 0 }},
	{"Num", "\x01\x01\x01\x01\x01\x01\x01\x01", func(r *Reader) bool { return r.Num() != 0 }},
	{"Text", "\x00\x05abcde", func(r *Reader) bool { return r.Text() != "" }},
	{"Text of 257 bytes", "\x01\x01" + strings.Repeat("\x01", 257), func(r *Reader) bool { return r.Text() != "" }},
}

// P2.1: with too few bytes left, whatever was read ahead, a reader is broken.
func TestTooFewBytes(t *testing.T) {
	for _, x := range reads {
		for n := range len(x.bytes) {
			for _, ahead := range []string{"", "\x01", "\x01\x01"} {
				r := NewReader(ahead + x.bytes[:n])
				for range len(ahead) {
					r.Byte()
				}
				if x.read(r) {
					t.Errorf("%s of %d bytes: more than the zero value", x.what, n)
				}
				checkBroken(t, x.what, r)
			}
		}
		r := NewReader(x.bytes)
		if !x.read(r) || r.End() != api.OK {
			t.Errorf("%s of as many bytes as it needs: not read", x.what)
		}
	}
}

// P2.1: a reader that is broken stays so, though what is left would do for another kind.
func TestBrokenReaders(t *testing.T) {
	for _, x := range reads {
		for _, s := range []string{"", x.bytes, x.bytes + x.bytes} {
			r := NewReader(s)
			r.Break()
			if x.read(r) {
				t.Errorf("%s, broken: more than the zero value", x.what)
			}
			checkBroken(t, x.what+", broken", r)
			r.Break()
			checkBroken(t, x.what+", broken twice", r)
		}
	}
	r := NewReader("\x01\x01\x01")
	if r.Byte() != 1 || r.Left() != 2 {
		t.Error("not read")
	}
	r.Break()
	checkBroken(t, "broken in the midst", r)
	r = NewReader("\x01")
	if r.Num() != 0 || r.Byte() != 0 {
		t.Error("behind a number that was too short, a byte is read")
	}
	r = NewReader("a")
	r.Byte()
	if r.End() != api.OK {
		t.Error("read to the end")
	}
	r.Break()
	checkBroken(t, "broken at its end", r)
}

// P2.1: a reader that isn't there.
func TestNoReader(t *testing.T) {
	var r *Reader
	checkBroken(t, "no reader", r)
	r.Break()
	checkBroken(t, "no reader, broken", r)
	for _, x := range reads {
		if x.read(nil) {
			t.Errorf("%s of no reader: more than the zero value", x.what)
		}
	}
}

// P2.1: readers of one text stand apart.
func TestReadersStandApart(t *testing.T) {
	s := "\x01\x02"
	a, b := NewReader(s), NewReader(s)
	a.Break()
	if b.Left() != 2 || b.Byte() != 1 || b.Byte() != 2 || b.End() != api.OK {
		t.Error("the other one is broken too")
	}
}

// Rule 2: lists that are handed in are neither kept nor written into, and what is answered doesn't change.
func TestNothingIsShared(t *testing.T) {
	var w Writer
	l, m := []byte{1, 2, 3}, []int{4}
	w.Byte(l...)
	w.Nums(m...)
	first := w.String()
	l[0], m[0] = 9, 9
	checkPut(t, "lists that change later", &w, "\x01\x02\x03\x00\x00\x00\x00\x00\x00\x00\x04")
	w.Byte(l[:1]...)
	w.Text("x")
	if !slices.Equal(l, []byte{9, 2, 3}) || first != "\x01\x02\x03\x00\x00\x00\x00\x00\x00\x00\x04" {
		t.Errorf("the list is now %v, the first answer %q", l, first)
	}
}

// thing is one thing that is put or read: of its kind, the value that counts.
type thing struct {
	kind byte
	num  int
	text string
}

const kinds = "bfcnt" // byte, truth, count, number, text

func (x thing) put(w *Writer) {
	switch x.kind {
	case 'b':
		w.Byte(byte(x.num))
	case 'f':
		w.Bool(x.num == 1)
	case 'c':
		w.Count(x.num)
	case 'n':
		w.Nums(x.num)
	case 't':
		w.Text(x.text)
	}
}

// bytes is what should be put, made by other means.
func (x thing) bytes() string {
	switch x.kind {
	case 'c':
		return string(binary.BigEndian.AppendUint16(nil, uint16(x.num)))
	case 'n':
		return string(binary.BigEndian.AppendUint64(nil, uint64(x.num)))
	case 't':
		return string(binary.BigEndian.AppendUint16(nil, uint16(len(x.text)))) + x.text
	}
	return string([]byte{byte(x.num)})
}

func readThing(r *Reader, kind byte) thing {
	x := thing{kind: kind}
	switch kind {
	case 'b':
		x.num = int(r.Byte())
	case 'f':
		if r.Bool() {
			x.num = 1
		}
	case 'c':
		x.num = r.Count()
	case 'n':
		x.num = r.Num()
	case 't':
		x.text = r.Text()
	}
	return x
}

func anyThing(r *rand.Rand) thing {
	x := thing{kind: kinds[r.IntN(len(kinds))]}
	switch x.kind {
	case 'b':
		x.num = r.IntN(256)
	case 'f':
		x.num = r.IntN(2)
	case 'c':
		x.num = r.IntN(65536)
	case 'n':
		x.num = int(r.Uint64()) >> r.IntN(64)
	case 't':
		b := make([]byte, r.IntN(300))
		for i := range b {
			b[i] = byte(r.Uint32())
		}
		x.text = string(b)
	}
	return x
}

// P2.2: what is put is read again, and no beginning of it is.
func TestWhatIsPutIsReadAgain(t *testing.T) {
	r := chance()
	for range 500 {
		var w Writer
		var l []thing
		want := ""
		for range r.IntN(8) {
			x := anyThing(r)
			l = append(l, x)
			want += x.bytes()
			x.put(&w)
		}
		checkPut(t, "some things", &w, want)
		s := w.String()
		for n := range len(s) + 1 {
			from := NewReader(s[:n])
			same := true
			for _, x := range l {
				same = readThing(from, x.kind) == x && same
			}
			if n == len(s) && (!same || from.End() != api.OK) {
				t.Fatalf("%v: not read again: End %d", l, from.End())
			}
			if n < len(s) && from.End() != api.ErrForm {
				t.Fatalf("%v: the first %d bytes are read, End %d", l, n, from.End())
			}
		}
		from := NewReader(s + "x")
		for _, x := range l {
			if readThing(from, x.kind) != x {
				t.Fatalf("%v: not read again with a byte behind", l)
			}
		}
		if from.End() != api.ErrLong || from.Left() != 1 {
			t.Fatalf("%v and a byte behind: End %d", l, from.End())
		}
	}
}

// P2.2: numbers at every place of their bits, and every count.
func TestNumbersAndCountsAreReadAgain(t *testing.T) {
	for i := range 64 {
		for _, n := range []int{1 << i, -1 << i, 1<<i - 1, ^(1<<i - 1), math.MaxInt >> i, math.MinInt >> i} {
			var w Writer
			w.Nums(n)
			r := NewReader(w.String())
			if got := r.Num(); got != n || r.End() != api.OK {
				t.Errorf("%d is read as %d", n, got)
			}
		}
	}
	var w Writer
	for n := range 65536 {
		w.Count(n)
	}
	r := NewReader(w.String())
	for n := range 65536 {
		if got := r.Count(); got != n {
			t.Fatalf("count %d is read as %d", n, got)
		}
	}
	if r.End() != api.OK {
		t.Error("bytes are left")
	}
}

// P2.2: bytes, whatever they are, that are read to their end, put again.
func TestWhatIsReadToItsEndWasPutSo(t *testing.T) {
	r := chance()
	ended := 0
	for range 200000 {
		b := make([]byte, r.IntN(24))
		for i := range b {
			b[i] = byte(r.IntN(3)) // so that truths, and short texts, are among them
			if r.IntN(4) == 0 {
				b[i] = byte(r.Uint32())
			}
		}
		from := NewReader(string(b))
		var w Writer
		for from.Left() > 0 {
			readThing(from, kinds[r.IntN(len(kinds))]).put(&w)
		}
		if from.End() == api.OK {
			ended++
			checkPut(t, "what was read", &w, string(b))
		}
	}
	if ended < 1000 {
		t.Errorf("only %d were read to their end", ended)
	}
}

// P2.2: many things, which neither a Writer nor a Reader goes through again for each one.
func TestManyThings(t *testing.T) {
	const many = 1 << 18
	var w Writer
	for i := range many {
		w.Byte(byte(i))
		w.Nums(i)
	}
	r := NewReader(w.String())
	for i := range many {
		if r.Byte() != byte(i) || r.Num() != i {
			t.Fatalf("thing %d isn't read again", i)
		}
	}
	if r.End() != api.OK {
		t.Error("bytes are left")
	}
}
