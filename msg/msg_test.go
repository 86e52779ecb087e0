package msg

import (
	"encoding/binary"
	"math"
	"math/rand/v2"
	"reflect"
	"slices"
	"strings"
	"testing"

	"remuda/api"
)

func chance() *rand.Rand { return rand.New(rand.NewPCG(1, 2)) }

var aTid = api.Tid{Node: 2, Epoch: 3, Seq: 4}

func someItems() []api.Item {
	return []api.Item{{Cell: 1, Version: 3, Value: -9}, {Cell: 7, Version: 1<<40 - 1, Value: math.MinInt, Write: true, New: math.MaxInt}}
}

// oneOfEach is a right message of each kind, in which no field of the kind is zero.
func oneOfEach() []Msg {
	return []Msg{
		{Kind: Get, Cell: 3},
		{Kind: Got, Cell: 3, Version: 4, Value: -5},
		{Kind: Moved, Cell: 3, Node: 4},
		{Kind: Who, Cell: 15},
		{Kind: Here, Cell: 1},
		{Kind: Find, Cell: 1, Node: 2, Num: 3},
		{Kind: Object, Cell: 1, Hop: 2, Version: 3, Value: 1 << 50, Nodes: []int{2, 5, 16}},
		{Kind: Taken, Cell: 2, Hop: 1 << 33},
		{Kind: Prepare, Tid: aTid, Items: someItems(), Nodes: []int{1, 3}},
		{Kind: Vote, Tid: aTid, Yes: true},
		{Kind: Decide, Tid: aTid, Yes: true},
		{Kind: Acked, Tid: aTid},
		{Kind: Ask, Tid: aTid},
		{Kind: Told, Tid: aTid, Yes: true},
		{Kind: Stale, Cell: 2, Version: 9},
	}
}

// fieldsOf is the names of each kind's fields, by the chapter's list.
func fieldsOf(kind int) []string {
	return strings.Fields([]string{
		"", "Cell", "Cell Version Value", "Cell Node", "Cell", "Cell", "Cell Node Num", "Cell Hop Version Value Nodes", "Cell Hop",
		"Tid Items Nodes", "Tid Yes", "Tid Yes", "Tid", "Tid", "Tid Yes", "Cell Version",
	}[kind])
}

// ofKind is the one of a kind.
func ofKind(kind int) Msg { return oneOfEach()[kind-1] }

// with is a message with a field that stands by a name set to another value.
func with(m Msg, name string, v any) Msg {
	reflect.ValueOf(&m).Elem().FieldByName(name).Set(reflect.ValueOf(v))
	return m
}

func num8(n int) string { return string(binary.BigEndian.AppendUint64(nil, uint64(n))) }

func listOf(n int, s string) string {
	return string(binary.BigEndian.AppendUint16(nil, uint16(n))) + s
}

func truth(yes bool) string {
	if yes {
		return "\x01"
	}
	return "\x00"
}

// fieldBytes is the bytes of a field's value, right or not.
func fieldBytes(v any) string {
	var s string
	switch x := v.(type) {
	case int:
		return num8(x)
	case bool:
		return truth(x)
	case api.Tid:
		return num8(x.Node) + num8(x.Epoch) + num8(x.Seq)
	case []int:
		for _, n := range x {
			s += num8(n)
		}
		return listOf(len(x), s)
	case []api.Item:
		for _, i := range x {
			s += num8(i.Cell) + num8(i.Version) + num8(i.Value) + truth(i.Write) + num8(i.New)
		}
		return listOf(len(x), s)
	}
	panic("a field of no kind")
}

// bytesOf is a message's bytes, right or not, by the chapter's list.
func bytesOf(m Msg) string {
	s := string([]byte{byte(m.Kind)})
	for _, name := range fieldsOf(m.Kind) {
		s += fieldBytes(reflect.ValueOf(m).FieldByName(name).Interface())
	}
	return s
}

// same tells whether messages are the same, an empty list being none.
func same(a, b Msg) bool {
	if !slices.Equal(a.Items, b.Items) || !slices.Equal(a.Nodes, b.Nodes) {
		return false
	}
	a.Items, a.Nodes, b.Items, b.Nodes = nil, nil, nil, nil
	return reflect.DeepEqual(a, b)
}

func checkRight(t *testing.T, m Msg) {
	t.Helper()
	if !Right(m) {
		t.Errorf("%+v isn't right", m)
	}
	s, e := Encode(m)
	if s != bytesOf(m) || e != api.OK {
		t.Errorf("Encode of %+v: %x and %d, want %x", m, s, e, bytesOf(m))
	}
	back, e := Decode(bytesOf(m))
	if !same(back, m) || e != api.OK {
		t.Errorf("Decode of %x: %+v and %d, want %+v", bytesOf(m), back, e, m)
	}
}

func checkWrong(t *testing.T, m Msg) {
	t.Helper()
	if Right(m) {
		t.Errorf("%+v is right", m)
	}
	if s, e := Encode(m); s != "" || e != api.ErrArg {
		t.Errorf("Encode of %+v: %x and %d", m, s, e)
	}
}

// checkNoMsg takes a message that isn't right, but for that its fields are those of its kind.
func checkNoMsg(t *testing.T, m Msg) {
	t.Helper()
	checkWrong(t, m)
	checkForm(t, bytesOf(m))
}

func checkForm(t *testing.T, s string) {
	t.Helper()
	if m, e := Decode(s); !reflect.DeepEqual(m, Msg{}) || e != api.ErrForm {
		t.Errorf("Decode of %x: %+v and %d", s, m, e)
	}
}

// checkField takes a field of a message, values that may be and those that may not.
func checkField[T any](t *testing.T, m Msg, name string, good, bad []T) {
	t.Helper()
	for _, v := range good {
		checkRight(t, with(m, name, v))
	}
	for _, v := range bad {
		checkNoMsg(t, with(m, name, v))
	}
}

var (
	toSixteen   = []int{1, 2, 15, 16}
	notToThese  = []int{math.MinInt, -1 << 40, -1, 0, 17, 257, 1<<32 + 1, 1 << 40, math.MaxInt}
	fromNought  = []int{0, 1, 16, 255, 1 << 32, 1<<40 - 1, 1 << 40}
	notFromThat = []int{math.MinInt, -1 << 40, -1, 1<<40 + 1, 1 << 41, math.MaxInt}
	any64       = []int{math.MinInt, -1 << 40, -1, 0, 1, 1<<40 + 1, math.MaxInt}
)

// withField is each kind that has a field, by that one's right message.
func withField(name string) []Msg {
	return slices.DeleteFunc(oneOfEach(), func(m Msg) bool { return !slices.Contains(fieldsOf(m.Kind), name) })
}

// P10.1: the constants.
func TestKinds(t *testing.T) {
	for i, k := range []int{Get, Got, Moved, Who, Here, Find, Object, Taken, Prepare, Vote, Decide, Acked, Ask, Told, Stale} {
		if k != i+1 {
			t.Errorf("kind %d stands at %d", k, i+1)
		}
	}
}

// P10.1: a right message of each kind, its bytes and back.
func TestOneOfEach(t *testing.T) {
	for _, m := range oneOfEach() {
		checkRight(t, m)
	}
}

// P10.1: of each kind all fields that may be zero at once.
func TestZeroFields(t *testing.T) {
	for _, m := range oneOfEach() {
		checkRight(t, Msg{Kind: m.Kind, Tid: m.Tid, Items: m.Items, Node: m.Node, Hop: m.Hop})
	}
	checkRight(t, Msg{Kind: Moved})
}

// P10.1: the chapter's example.
func TestExample(t *testing.T) {
	s, e := Encode(Msg{Kind: Get, Cell: 3})
	if s != "\x01\x00\x00\x00\x00\x00\x00\x00\x03" || e != api.OK {
		t.Errorf("%x and %d", s, e)
	}
}

// P10.1: the bytes of a message of several fields, written out.
func TestBytesWrittenOut(t *testing.T) {
	for want, m := range map[string]Msg{
		"\x06" + "\x00\x00\x00\x00\x00\x00\x00\x01" + "\x00\x00\x00\x00\x00\x00\x00\x02" + "\x00\x00\x00\x00\x00\x00\x00\xff": {Kind: 6, Cell: 1, Node: 2, Num: 255},
		"\x07" + num8(1) + num8(2) + num8(3) + num8(-4) + "\x00\x02" + num8(5) + num8(6):                                      {Kind: 7, Cell: 1, Hop: 2, Version: 3, Value: -4, Nodes: []int{5, 6}},
		"\x09" + num8(1) + num8(2) + num8(3) + "\x00\x01" + num8(4) + num8(5) + num8(6) + "\x01" + num8(7) + "\x00\x00":       {Kind: 9, Tid: api.Tid{Node: 1, Epoch: 2, Seq: 3}, Items: []api.Item{{Cell: 4, Version: 5, Value: 6, Write: true, New: 7}}},
		"\x0e" + num8(1) + num8(2) + num8(3) + "\x01":                                                                         {Kind: 14, Tid: api.Tid{Node: 1, Epoch: 2, Seq: 3}, Yes: true},
	} {
		if s, e := Encode(m); s != want || e != api.OK {
			t.Errorf("Encode of %+v: %x and %d, want %x", m, s, e, want)
		}
	}
}

// P10.1: what has no kind is no message, whatever else it has.
func TestNoKind(t *testing.T) {
	checkWrong(t, Msg{})
	for _, k := range []int{math.MinInt, -1, 0, 16, 17, 255, 256, 257, 256 + 12, 1<<32 + 4, math.MaxInt} {
		checkWrong(t, Msg{Kind: k})
		for _, m := range oneOfEach() {
			checkWrong(t, with(m, "Kind", k))
		}
	}
	for b := range 256 {
		if 1 <= b && b <= 15 {
			continue
		}
		kind := string([]byte{byte(b)})
		checkForm(t, kind)
		for _, m := range oneOfEach() {
			checkForm(t, kind+bytesOf(m)[1:])
		}
	}
	checkForm(t, "")
}

// P10.1: each field that a kind hasn't is zero: a message that has it otherwise isn't right.
func TestOtherFields(t *testing.T) {
	others := map[string][]any{
		"Tid":   {aTid, api.Tid{Node: 1}, api.Tid{Epoch: 1}, api.Tid{Seq: -1}},
		"Items": {someItems(), someItems()[:1], make([]api.Item, 1), make([]api.Item, 17)},
		"Nodes": {[]int{1}, []int{0}, []int{3, 4}, make([]int, 17)},
		"Yes":   {true},
	}
	for _, name := range []string{"Cell", "Node", "Num", "Hop", "Version", "Value"} {
		others[name] = []any{math.MinInt, -1, 1, 2, 1 << 40, math.MaxInt}
	}
	for name, l := range others {
		for _, m := range oneOfEach() {
			for _, v := range l {
				if !slices.Contains(fieldsOf(m.Kind), name) {
					checkWrong(t, with(m, name, v))
				}
			}
		}
	}
}

// P10.1: an empty list and no list are one, also where a kind has no lists.
func TestEmptyLists(t *testing.T) {
	for _, m := range oneOfEach() {
		m.Nodes = []int{}
		checkRight(t, m)
		if m.Kind != Prepare {
			m.Items = []api.Item{}
			checkRight(t, m)
		}
	}
}

// P10.1: the numbers, in each kind that has them.
func TestNumbers(t *testing.T) {
	for _, m := range withField("Cell") {
		checkField(t, m, "Cell", []int{0, 1, 14, 15}, []int{math.MinInt, -1, 16, 17, 256, 1 << 32, math.MaxInt})
	}
	for _, m := range withField("Hop") {
		checkField(t, m, "Hop", fromNought[1:], append([]int{0}, notFromThat...))
	}
	for _, m := range withField("Version") {
		checkField(t, m, "Version", fromNought, notFromThat)
	}
	for _, m := range withField("Value") {
		checkField(t, m, "Value", any64, nil)
	}
	checkField(t, ofKind(Find), "Num", []int{0, 1, 16, 254, 255}, []int{math.MinInt, -1, 256, 257, 1 << 32, 1 << 40, math.MaxInt})
	checkField(t, ofKind(Find), "Node", toSixteen, notToThese)
	checkField(t, ofKind(Moved), "Node", append([]int{0}, toSixteen...), slices.DeleteFunc(slices.Clone(notToThese), func(n int) bool { return n == 0 }))
}

// P10.1: the name, in each kind that has one.
func TestTid(t *testing.T) {
	var good, bad []api.Tid
	for _, n := range toSixteen {
		good = append(good, api.Tid{Node: n, Epoch: 1, Seq: 1})
	}
	for _, n := range notToThese {
		bad = append(bad, api.Tid{Node: n, Epoch: 1, Seq: 1})
	}
	for _, n := range fromNought[1:] {
		good = append(good, api.Tid{Node: 1, Epoch: n, Seq: 1}, api.Tid{Node: 1, Epoch: 1, Seq: n})
	}
	for _, n := range append([]int{0}, notFromThat...) {
		bad = append(bad, api.Tid{Node: 1, Epoch: n, Seq: 1}, api.Tid{Node: 1, Epoch: 1, Seq: n})
	}
	l := withField("Tid")
	if len(l) != 6 {
		t.Error("names stand in", l)
	}
	for _, m := range l {
		checkField(t, m, "Tid", good, append(bad, api.Tid{}))
	}
}

// P10.1: the truth, in each kind that has one.
func TestYes(t *testing.T) {
	for _, m := range withField("Yes") {
		checkField(t, m, "Yes", []bool{false, true}, nil)
		s := bytesOf(m)
		for b := 2; b < 256; b++ {
			checkForm(t, s[:len(s)-1]+string([]byte{byte(b)}))
		}
	}
}

func itemsOf(cells ...int) []api.Item {
	var l []api.Item
	for _, c := range cells {
		l = append(l, api.Item{Cell: c})
	}
	return l
}

func upTo(from, to int) []int {
	var l []int
	for n := from; n <= to; n++ {
		l = append(l, n)
	}
	return l
}

// P10.1: items as layer 6 has them: there is at least one.
func TestItems(t *testing.T) {
	checkField(t, ofKind(Prepare), "Items",
		[][]api.Item{itemsOf(0), itemsOf(15), itemsOf(0, 15), itemsOf(upTo(0, 15)...), {{Version: 1<<40 - 1}}, {{Write: true}}, {{Write: true, New: math.MinInt}}},
		[][]api.Item{nil, {}, itemsOf(16), itemsOf(-1), itemsOf(0, 0), itemsOf(1, 0), itemsOf(0, 16), itemsOf(upTo(0, 16)...), itemsOf(make([]int, 17)...), {{Version: 1 << 40}}, {{Version: -1}}, {{New: 1}}},
	)
}

// P10.1: nodes as layer 6 has them; there may be none.
func TestNodes(t *testing.T) {
	for _, k := range []int{Object, Prepare} {
		checkField(t, ofKind(k), "Nodes",
			[][]int{nil, {1}, {16}, {1, 16}, {3, 4, 9}, upTo(1, 16)},
			[][]int{{0}, {-1}, {17}, {1, 1}, {2, 1}, {1, 17}, upTo(0, 16), upTo(1, 17), {math.MinInt}, {1, math.MaxInt}},
		)
	}
}

// P10.1: bytes that end too early, at each place, and bytes behind the end.
func TestCutAndLonger(t *testing.T) {
	for _, m := range oneOfEach() {
		s := bytesOf(m)
		for n := range len(s) {
			checkForm(t, s[:n])
		}
		for _, more := range []string{"\x00", "\x01", "x", num8(0), s} {
			checkForm(t, s+more)
		}
	}
}

// P10.1: counts of lists that aren't those of what stands behind them.
func TestWrongCounts(t *testing.T) {
	for _, m := range []Msg{ofKind(Object), ofKind(Prepare)} {
		s := bytesOf(m)
		at := len(s) - 8*len(m.Nodes) - 2
		for _, n := range []int{0, 1, 4, 16, 17, 255, 256, 65535} {
			checkForm(t, s[:at]+listOf(n, s[at+2:]))
		}
	}
	s := bytesOf(ofKind(Prepare))
	for _, n := range []int{0, 1, 3, 16, 17, 65535} {
		checkForm(t, s[:25]+listOf(n, s[27:]))
	}
}

// anyNum is a number of any kind: mostly one that may be somewhere.
func anyNum(r *rand.Rand) int {
	switch r.IntN(8) {
	case 0:
		return []int{math.MinInt, -1, 16, 17, 255, 256, 1<<40 - 1, 1 << 40, 1<<40 + 1, math.MaxInt}[r.IntN(10)]
	case 1:
		return int(r.Uint64()) >> r.IntN(64)
	case 2, 3:
		return 0
	}
	return 1 + r.IntN(4)
}

// anyMsg has the fields of its kind, of any values.
func anyMsg(r *rand.Rand) Msg {
	from := Msg{Tid: api.Tid{Node: anyNum(r), Epoch: anyNum(r), Seq: anyNum(r)}, Cell: anyNum(r), Node: anyNum(r), Num: anyNum(r), Hop: anyNum(r), Version: anyNum(r), Value: anyNum(r), Yes: r.IntN(2) == 0}
	for range r.IntN(4) {
		from.Items = append(from.Items, api.Item{Cell: len(from.Items) + anyNum(r), Version: anyNum(r), Value: anyNum(r), Write: true, New: anyNum(r)})
	}
	for range r.IntN(4) {
		from.Nodes = append(from.Nodes, len(from.Nodes)+anyNum(r))
	}
	m := Msg{Kind: 1 + r.IntN(15)}
	for _, name := range fieldsOf(m.Kind) {
		m = with(m, name, reflect.ValueOf(from).FieldByName(name).Interface())
	}
	return m
}

// P10.1: any messages: those that are right go to their bytes and back, of the others there are no bytes.
func TestAnyMessages(t *testing.T) {
	r := chance()
	right := 0
	for range 50000 {
		if m := anyMsg(r); Right(m) {
			right++
			checkRight(t, m)
		} else {
			checkNoMsg(t, m)
		}
	}
	if right < 10000 {
		t.Error("few were right:", right)
	}
}

// P10.1: bytes of any kind: those that are a message's are what that message comes to again.
func TestAnyBytes(t *testing.T) {
	r := chance()
	good := 0
	for range 200000 {
		s := []byte(bytesOf(oneOfEach()[r.IntN(15)]))
		for range 1 + r.IntN(2) {
			s[r.IntN(len(s))] = byte(r.IntN(1 + r.IntN(256)))
		}
		m, e := Decode(string(s))
		if e == api.OK {
			good++
			if again, e := Encode(m); again != string(s) || e != api.OK || !Right(m) {
				t.Errorf("%x: %+v, and of that %x, %d", s, m, again, e)
			}
		} else if e != api.ErrForm || !reflect.DeepEqual(m, Msg{}) {
			t.Errorf("%x: %+v and %d", s, m, e)
		}
	}
	if good < 10000 {
		t.Error("few were good:", good)
	}
}

// Rule 2: nothing is written into what is handed in, and what is answered shares no memory.
func TestNoSharedMemory(t *testing.T) {
	for _, k := range []int{Object, Prepare} {
		m := ofKind(k)
		s, _ := Encode(m)
		if Right(m); !same(m, ofKind(k)) {
			t.Error("changed:", m)
		}
		one, _ := Decode(s)
		two, _ := Decode(s)
		for i := range one.Items {
			one.Items[i].Value = 100
		}
		clear(one.Nodes)
		if again, _ := Decode(s); !same(two, m) || !same(again, m) {
			t.Error("shared:", two, again)
		}
	}
}
