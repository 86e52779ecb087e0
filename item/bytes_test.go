package item

import (
	"encoding/binary"
	"math"
	"math/rand/v2"
	"slices"
	"strings"
	"testing"

	"remuda/api"
	"remuda/wire"
)

// The bytes of each thing, made by other means than the program's.

func countBytes(n int) string { return string(binary.BigEndian.AppendUint16(nil, uint16(n))) }

func numBytes(l ...int) string {
	var b []byte
	for _, n := range l {
		b = binary.BigEndian.AppendUint64(b, uint64(n))
	}
	return string(b)
}

func tidBytes(t api.Tid) string { return numBytes(t.Node, t.Epoch, t.Seq) }

func itemsBytes(l ...api.Item) string {
	var b strings.Builder
	b.WriteString(countBytes(len(l)))
	for _, x := range l {
		write := "\x00"
		if x.Write {
			write = "\x01"
		}
		b.WriteString(numBytes(x.Cell, x.Version, x.Value) + write + numBytes(x.New))
	}
	return b.String()
}

func nodesBytes(l ...int) string { return countBytes(len(l)) + numBytes(l...) }

// checkPut tells whether that, and nothing else, was put.
func checkPut(t *testing.T, what string, w *Writer, want string) {
	t.Helper()
	if got := w.String(); got != want || w.Bad() {
		t.Errorf("%s: %.200q, bad %v; want %.200q", what, got, w.Bad(), want)
	}
}

// checkBroken tells whether a reader is broken: it reads zero values, of every kind, from then on.
func checkBroken(t *testing.T, what string, r *Reader) {
	t.Helper()
	for range 2 {
		if r.Left() != 0 || r.End() != api.ErrForm {
			t.Errorf("%s: Left %d, End %d", what, r.Left(), r.End())
		}
		if r.Tid() != (api.Tid{}) || len(r.Items()) != 0 || len(r.Nodes()) != 0 {
			t.Errorf("%s: it reads more than zero values", what)
		}
		if r.Byte() != 0 || r.Bool() || r.Count() != 0 || r.Num() != 0 || r.Text() != "" {
			t.Errorf("%s: it reads more than zero values of layer 2", what)
		}
	}
}

// P6.1: the chapter's example.
func TestExample(t *testing.T) {
	var w Writer
	w.Tid(api.Tid{Node: 1, Epoch: 2, Seq: 3})
	if len(w.String()) != 24 {
		t.Errorf("the Tid 1, 2, 3 has %d bytes", len(w.String()))
	}
	checkPut(t, "the Tid 1, 2, 3", &w, "\x00\x00\x00\x00\x00\x00\x00\x01\x00\x00\x00\x00\x00\x00\x00\x02\x00\x00\x00\x00\x00\x00\x00\x03")
}

// P6.1: the bytes of each thing, written out.
func TestPutBytes(t *testing.T) {
	const (
		ff   = "\xff\xff\xff\xff\xff\xff\xff"
		zero = "\x00\x00\x00\x00\x00\x00\x00"
	)
	for _, x := range []struct {
		what string
		put  func(w *Writer)
		want string
	}{
		{"the zero Tid", func(w *Writer) { w.Tid(api.Tid{}) }, zero + "\x00" + zero + "\x00" + zero + "\x00"},
		{"a Tid that isn't right", func(w *Writer) { w.Tid(api.Tid{Node: -1, Epoch: 17, Seq: -2}) }, ff + "\xff" + zero + "\x11" + ff + "\xfe"},
		{"no items", func(w *Writer) { w.Items() }, "\x00\x00"},
		{"no items, as a list", func(w *Writer) { w.Items([]api.Item{}...) }, "\x00\x00"},
		{"an item that was read", func(w *Writer) { w.Items(api.Item{Cell: 1, Version: 2, Value: 3}) }, "\x00\x01" + zero + "\x01" + zero + "\x02" + zero + "\x03" + "\x00" + zero + "\x00"},
		{"an item that was written", func(w *Writer) { w.Items(api.Item{Cell: 1, Version: 2, Value: -1, Write: true, New: 5}) }, "\x00\x01" + zero + "\x01" + zero + "\x02" + ff + "\xff" + "\x01" + zero + "\x05"},
		{"an item that isn't right", func(w *Writer) { w.Items(api.Item{Cell: -1, Version: -2, Value: 3, New: 4}) }, "\x00\x01" + ff + "\xff" + ff + "\xfe" + zero + "\x03" + "\x00" + zero + "\x04"},
		{"two items that fall", func(w *Writer) { w.Items(api.Item{Cell: 7}, api.Item{Cell: 6}) }, "\x00\x02" + zero + "\x07" + zero + "\x00" + zero + "\x00" + "\x00" + zero + "\x00" + zero + "\x06" + zero + "\x00" + zero + "\x00" + "\x00" + zero + "\x00"},
		{"no nodes", func(w *Writer) { w.Nodes() }, "\x00\x00"},
		{"no nodes, as a list", func(w *Writer) { w.Nodes([]int{}...) }, "\x00\x00"},
		{"a node", func(w *Writer) { w.Nodes(16) }, "\x00\x01" + zero + "\x10"},
		{"nodes", func(w *Writer) { w.Nodes(3, 4) }, "\x00\x02" + zero + "\x03" + zero + "\x04"},
		{"nodes that aren't right", func(w *Writer) { w.Nodes(4, -1, 4) }, "\x00\x03" + zero + "\x04" + ff + "\xff" + zero + "\x04"},
	} {
		var w Writer
		x.put(&w)
		checkPut(t, x.what, &w, x.want)
		x.put(&w)
		checkPut(t, x.what+", behind itself", &w, x.want+x.want)
	}
}

// P6.1: sixteen, and more, up to what can be counted, are put all the same; what can't be counted makes a Writer bad.
func TestPutMany(t *testing.T) {
	for _, n := range []int{15, 16, 17, 255, 256, 300, 65535} {
		items, nodes := cells(-5, upTo(1, n)...), upTo(-3, n-4)
		var w Writer
		w.Items(items...)
		w.Nodes(nodes...)
		checkPut(t, "many", &w, itemsBytes(items...)+nodesBytes(nodes...))
	}
	for what, put := range map[string]func(w *Writer){
		"items": func(w *Writer) { w.Items(make([]api.Item, 65536)...) },
		"nodes": func(w *Writer) { w.Nodes(make([]int, 65536)...) },
	} {
		var w Writer
		w.Tid(api.Tid{Node: 1})
		put(&w)
		for range 2 {
			if !w.Bad() || w.String() != "" {
				t.Errorf("65536 %s: bad %v, %.100q", what, w.Bad(), w.String())
			}
			w.Tid(api.Tid{Node: 1})
			w.Items(api.Item{Cell: 1})
			w.Nodes(1)
		}
	}
}

// P6.1: all that layer 2's Writer and Reader do is done as well, between names, items and nodes.
func TestLayerTwo(t *testing.T) {
	var w Writer
	a, l := api.Tid{Node: 1, Epoch: 2, Seq: 3}, cells(5, 2, 5)
	if w.String() != "" || w.Bad() {
		t.Errorf("a Writer that has put nothing: %q, bad %v", w.String(), w.Bad())
	}
	w.Byte(9, 8)
	w.Tid(a)
	w.Bool(true)
	w.Items(l...)
	w.Count(770)
	w.Nodes(3, 4)
	w.Nums(-5, 6)
	w.Text("xyz")
	w.Bool(false)
	checkPut(t, "all kinds", &w, "\x09\x08"+tidBytes(a)+"\x01"+itemsBytes(l...)+"\x03\x02"+nodesBytes(3, 4)+numBytes(-5, 6)+"\x00\x03xyz\x00")
	r := NewReader(w.String())
	left := len(w.String())
	check := func(what string, ok bool, size int) {
		t.Helper()
		left -= size
		if !ok || r.Left() != left || left > 0 && r.End() != api.ErrLong {
			t.Errorf("%s: read again %v, Left %d, want %d, End %d", what, ok, r.Left(), left, r.End())
		}
	}
	check("nothing", true, 0)
	check("bytes", r.Byte() == 9 && r.Byte() == 8, 2)
	check("a Tid", r.Tid() == a, 24)
	check("true", r.Bool(), 1)
	check("items", slices.Equal(r.Items(), l), 2+2*33)
	check("a count", r.Count() == 770, 2)
	check("nodes", slices.Equal(r.Nodes(), []int{3, 4}), 2+2*8)
	check("numbers", r.Num() == -5 && r.Num() == 6, 16)
	check("a text", r.Text() == "xyz", 5)
	check("false", !r.Bool(), 1)
	if r.End() != api.OK {
		t.Errorf("at the end: %d", r.End())
	}
	w.Count(-1)
	if w.Tid(a); !w.Bad() || w.String() != "" {
		t.Errorf("behind Count(-1): bad %v, %q", w.Bad(), w.String())
	}
	r = NewReader(tidBytes(a))
	r.Break()
	checkBroken(t, "a reader that was broken by Break", r)
	var layer *wire.Writer = &w.Writer // what a Writer has put is what that of layer 2 has
	if !layer.Bad() {
		t.Error("layer 2's Writer isn't bad")
	}
}

// P6.1: bytes that are cut, at every place: the zero value, and the reader is broken, whatever was read ahead of them.
func TestCutBytes(t *testing.T) {
	many := slices.Repeat([]api.Item{{Cell: -1, Version: -1, Value: -1, Write: true, New: -1}}, 16)
	for _, x := range []struct {
		what  string
		bytes string
		read  func(r *Reader) bool // whether something else than the zero value is read
	}{
		{"a Tid", tidBytes(api.Tid{Node: -1, Epoch: -1, Seq: -1}), func(r *Reader) bool { return r.Tid() != (api.Tid{}) }},
		{"no items", itemsBytes(), func(r *Reader) bool { return len(r.Items()) != 0 }},
		{"an item", itemsBytes(many[:1]...), func(r *Reader) bool { return len(r.Items()) != 0 }},
		{"items", itemsBytes(many[:3]...), func(r *Reader) bool { return len(r.Items()) != 0 }},
		{"sixteen items", itemsBytes(many...), func(r *Reader) bool { return len(r.Items()) != 0 }},
		{"no nodes", nodesBytes(), func(r *Reader) bool { return len(r.Nodes()) != 0 }},
		{"a node", nodesBytes(-1), func(r *Reader) bool { return len(r.Nodes()) != 0 }},
		{"nodes", nodesBytes(-1, -1, -1), func(r *Reader) bool { return len(r.Nodes()) != 0 }},
		{"sixteen nodes", nodesBytes(slices.Repeat([]int{-1}, 16)...), func(r *Reader) bool { return len(r.Nodes()) != 0 }},
	} {
		for n := range len(x.bytes) {
			for _, ahead := range []string{"", "\x01"} {
				r := NewReader(ahead + x.bytes[:n])
				for range len(ahead) {
					r.Byte()
				}
				if x.read(r) {
					t.Errorf("%s, of which %d bytes are there: more than the zero value", x.what, n)
				}
				checkBroken(t, x.what+" that is cut", r)
			}
		}
		r := NewReader(x.bytes + "\x07")
		if x.read(r) != (len(x.bytes) > 2) || r.Left() != 1 || r.Byte() != 7 || r.End() != api.OK {
			t.Errorf("%s, whole, and a byte behind: not read", x.what)
		}
	}
}

// P6.1: counts up to sixteen are read; from seventeen on there are none, and the reader is broken, though all would be there.
func TestReadCounts(t *testing.T) {
	for _, n := range []int{0, 1, 2, 15, 16} {
		items, nodes := cells(7, upTo(1, n)...), upTo(1, n)
		r := NewReader(itemsBytes(items...) + nodesBytes(nodes...) + "x")
		if l := r.Items(); !slices.Equal(l, items) {
			t.Errorf("%d items are read as %v", n, l)
		}
		if l := r.Nodes(); !slices.Equal(l, nodes) {
			t.Errorf("%d nodes are read as %v", n, l)
		}
		if r.Left() != 1 || r.Byte() != 'x' || r.End() != api.OK {
			t.Errorf("behind %d items and nodes: End %d", n, r.End())
		}
	}
	for _, n := range []int{17, 18, 32, 255, 256, 257, 272, 32768, 65535} {
		for what, s := range map[string]string{
			"none there":  countBytes(n),
			"zeros":       countBytes(n) + strings.Repeat("\x00", 33*17),
			"more behind": countBytes(n) + strings.Repeat("\x00", 33*n) + "x",
			"items":       itemsBytes(cells(1, upTo(1, n)...)...),
			"nodes":       nodesBytes(upTo(1, n)...),
		} {
			r := NewReader(s)
			if l := r.Items(); len(l) != 0 {
				t.Errorf("items with a count of %d, %s: %v", n, what, l)
			}
			checkBroken(t, "items with a count above sixteen", r)
			r = NewReader(s)
			if l := r.Nodes(); len(l) != 0 {
				t.Errorf("nodes with a count of %d, %s: %v", n, what, l)
			}
			checkBroken(t, "nodes with a count above sixteen", r)
		}
	}
}

// P6.1: an item's truth that is neither 0 nor 1 breaks the reader, whichever item's it is.
func TestReadTruths(t *testing.T) {
	for at := range 3 {
		for b := range 256 {
			s := []byte(itemsBytes(cells(1, 4, 5, 6)...))
			s[2+33*at+24] = byte(b)
			r := NewReader(string(s))
			l := r.Items()
			if b > 1 {
				if len(l) != 0 {
					t.Errorf("items with the truth %d: %v", b, l)
				}
				checkBroken(t, "items with a truth that is none", r)
				continue
			}
			want := cells(1, 4, 5, 6)
			want[at].Write = b == 1
			checkItems(t, "items with a truth", l, want...)
			if r.End() != api.OK {
				t.Errorf("behind the truth %d: End %d", b, r.End())
			}
		}
	}
}

// P6.1: a reader that has no reader of layer 2, or isn't there, reads zero values.
func TestNoReader(t *testing.T) {
	checkBroken(t, "the zero Reader", &Reader{})
	var r *Reader
	if r.Tid() != (api.Tid{}) || len(r.Items()) != 0 || len(r.Nodes()) != 0 {
		t.Error("no reader reads more than zero values")
	}
	r = NewReader("")
	if r.Left() != 0 || r.End() != api.OK {
		t.Errorf("of the empty text: Left %d, End %d", r.Left(), r.End())
	}
}

// P6.1: what is written into lists that were put, or into what was read, changes nothing else.
func TestBytesShareNoMemory(t *testing.T) {
	var w Writer
	items, nodes := cells(1, 2, 5), []int{3, 4}
	w.Items(items...)
	w.Nodes(nodes...)
	first := w.String()
	items[0], nodes[0] = api.Item{Cell: 99}, 99
	want := itemsBytes(cells(1, 2, 5)...) + nodesBytes(3, 4)
	checkPut(t, "lists that change later", &w, want)
	w.Nodes(7)
	if first != want {
		t.Errorf("the first answer is now %q", first)
	}
	a, b := NewReader(want+want), NewReader(want)
	one, two := a.Items(), a.Nodes()
	one[0], two[0] = api.Item{Cell: 98}, 98
	_, _ = append(one, api.Item{Cell: 97}), append(two, 97)
	checkItems(t, "items that are read next", a.Items(), cells(1, 2, 5)...)
	checkItems(t, "items that another one reads", b.Items(), cells(1, 2, 5)...)
	if l := a.Nodes(); !slices.Equal(l, []int{3, 4}) || a.End() != api.OK {
		t.Errorf("nodes that are read next: %v", l)
	}
}

// thing is one thing: how it is put, the bytes that it has then, and whether it is read again.
type thing struct {
	put   func(w *Writer)
	bytes string
	read  func(r *Reader) bool
}

// anyThing is a name, items or nodes, right or not, or one of layer 2's.
func anyThing(r *rand.Rand) thing {
	tid, items, nodes, n := anyTid(r), anyItems(r, r.IntN(17)), anyNodes(r, r.IntN(17)), anyNum(r)
	switch r.IntN(5) {
	case 0:
		return thing{func(w *Writer) { w.Tid(tid) }, tidBytes(tid), func(r *Reader) bool { return r.Tid() == tid }}
	case 1:
		return thing{func(w *Writer) { w.Items(items...) }, itemsBytes(items...), func(r *Reader) bool { return slices.Equal(r.Items(), items) }}
	case 2:
		return thing{func(w *Writer) { w.Nodes(nodes...) }, nodesBytes(nodes...), func(r *Reader) bool { return slices.Equal(r.Nodes(), nodes) }}
	case 3:
		return thing{func(w *Writer) { w.Nums(n) }, numBytes(n), func(r *Reader) bool { return r.Num() == n }}
	}
	return thing{func(w *Writer) { w.Text("ab") }, "\x00\x02ab", func(r *Reader) bool { return r.Text() == "ab" }}
}

// P6.2: what is put, right or not, is read again, and no beginning of it is.
func TestWhatIsPutIsReadAgain(t *testing.T) {
	r := chance()
	for range 200 {
		var w Writer
		var l []thing
		want := ""
		for range r.IntN(6) {
			x := anyThing(r)
			l = append(l, x)
			want += x.bytes
			x.put(&w)
		}
		checkPut(t, "some things", &w, want)
		for n := range len(want) + 1 {
			from := NewReader(want[:n])
			same := true
			for _, x := range l {
				same = x.read(from) && same
			}
			if n == len(want) && (!same || from.End() != api.OK) {
				t.Fatalf("%q: not read again: End %d", want, from.End())
			}
			if n < len(want) && from.End() != api.ErrForm {
				t.Fatalf("%q: the first %d bytes are read, End %d", want, n, from.End())
			}
		}
	}
}

// P6.2: each number alone, at every place of its bits, in its own field.
func TestEachFieldIsReadAgain(t *testing.T) {
	for i := range 64 {
		for _, n := range []int{1 << i, -1 << i, 1<<i - 1, math.MaxInt >> i, math.MinInt >> i} {
			tids := []api.Tid{{Node: n}, {Epoch: n}, {Seq: n}}
			items := []api.Item{{Cell: n}, {Version: n}, {Value: n}, {New: n}, {Write: true, New: n}}
			var w Writer
			for _, x := range tids {
				w.Tid(x)
			}
			w.Items(items...)
			w.Nodes(n, 0, n)
			r := NewReader(w.String())
			for _, x := range tids {
				if got := r.Tid(); got != x {
					t.Errorf("%v is read as %v", x, got)
				}
			}
			checkItems(t, "items", r.Items(), items...)
			if l := r.Nodes(); !slices.Equal(l, []int{n, 0, n}) || r.End() != api.OK {
				t.Errorf("the nodes %d, 0, %d are read as %v, End %d", n, n, l, r.End())
			}
		}
	}
}
