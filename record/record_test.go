package record

import (
	"encoding/binary"
	"math"
	"math/rand/v2"
	"reflect"
	"slices"
	"strings"
	"testing"

	"remuda/api"
)

func chance() *rand.Rand { return rand.New(rand.NewPCG(1, 2)) }

var aTid = api.Tid{Node: 2, Epoch: 3, Seq: 4}

func someItems() []api.Item {
	return []api.Item{{Cell: 1, Version: 3, Value: -9}, {Cell: 7, Version: 1<<40 - 1, Value: math.MinInt, Write: true, New: math.MaxInt}}
}

// oneOfEach is a right record of each kind, with as few fields that are zero as may be.
func oneOfEach() []Record {
	return []Record{
		{Kind: Base, Node: 2, Count: 3, Num: 4},
		{Kind: Epoch, Num: 1 << 33},
		{Kind: Cell, Cell: 3, Status: 2, Hop: 6, Node: 4, Version: 5, Value: -1},
		{Kind: Prepared, Tid: aTid, Items: someItems(), Nodes: []int{2, 5, 16}},
		{Kind: Commit, Tid: aTid, Items: someItems(), Nodes: []int{1, 3}},
		{Kind: Done, Tid: aTid, Yes: true},
		{Kind: End, Tid: aTid},
		{Kind: Out, Cell: 1, Hop: 2, Node: 3},
		{Kind: In, Cell: 1, Hop: 2, Version: 3, Value: 4},
		{Kind: Gone, Cell: 1, Hop: 2},
		{Kind: Past, Tid: aTid, Yes: true},
		{Kind: Whole},
	}
}

// ofKind is the one of a kind.
func ofKind(kind int) Record { return oneOfEach()[kind-1] }

// with is a record with a field that stands by a name set to another value.
func with(r Record, name string, v any) Record {
	reflect.ValueOf(&r).Elem().FieldByName(name).Set(reflect.ValueOf(v))
	return r
}

func num8(n int) string { return string(binary.BigEndian.AppendUint64(nil, uint64(n))) }

func nums8(l ...int) string {
	var s string
	for _, n := range l {
		s += num8(n)
	}
	return s
}

func listOf(n int, s string) string {
	return string(binary.BigEndian.AppendUint16(nil, uint16(n))) + s
}

func truth(yes bool) string {
	if yes {
		return "\x01"
	}
	return "\x00"
}

func tidBytes(x api.Tid) string { return nums8(x.Node, x.Epoch, x.Seq) }

func itemsBytes(l []api.Item) string {
	var s string
	for _, x := range l {
		s += nums8(x.Cell, x.Version, x.Value) + truth(x.Write) + num8(x.New)
	}
	return listOf(len(l), s)
}

// bytesOf is a record's bytes, right or not, by the chapter's list.
func bytesOf(r Record) string {
	s := string([]byte{byte(r.Kind)})
	switch r.Kind {
	case 1:
		return s + nums8(r.Node, r.Count, r.Num)
	case 2:
		return s + nums8(r.Num)
	case 3:
		return s + nums8(r.Cell, r.Status, r.Hop, r.Node, r.Version, r.Value)
	case 4, 5:
		return s + tidBytes(r.Tid) + itemsBytes(r.Items) + listOf(len(r.Nodes), nums8(r.Nodes...))
	case 6, 11:
		return s + tidBytes(r.Tid) + truth(r.Yes)
	case 7:
		return s + tidBytes(r.Tid)
	case 8:
		return s + nums8(r.Cell, r.Hop, r.Node)
	case 9:
		return s + nums8(r.Cell, r.Hop, r.Version, r.Value)
	case 10:
		return s + nums8(r.Cell, r.Hop)
	}
	return s
}

// same tells whether records are the same, an empty list being none.
func same(a, b Record) bool {
	if !slices.Equal(a.Items, b.Items) || !slices.Equal(a.Nodes, b.Nodes) {
		return false
	}
	a.Items, a.Nodes, b.Items, b.Nodes = nil, nil, nil, nil
	return reflect.DeepEqual(a, b)
}

func checkRight(t *testing.T, r Record) {
	t.Helper()
	if !Right(r) {
		t.Errorf("%+v isn't right", r)
	}
	s, e := Encode(r)
	if s != bytesOf(r) || e != api.OK {
		t.Errorf("Encode of %+v: %x and %d, want %x", r, s, e, bytesOf(r))
	}
	back, e := Decode(bytesOf(r))
	if !same(back, r) || e != api.OK {
		t.Errorf("Decode of %x: %+v and %d, want %+v", bytesOf(r), back, e, r)
	}
}

func checkWrong(t *testing.T, r Record) {
	t.Helper()
	if Right(r) {
		t.Errorf("%+v is right", r)
	}
	if s, e := Encode(r); s != "" || e != api.ErrArg {
		t.Errorf("Encode of %+v: %x and %d", r, s, e)
	}
}

// checkNoRecord takes a record that isn't right, but for that its fields are those of its kind.
func checkNoRecord(t *testing.T, r Record) {
	t.Helper()
	checkWrong(t, r)
	checkForm(t, bytesOf(r))
}

func checkForm(t *testing.T, s string) {
	t.Helper()
	if r, e := Decode(s); !reflect.DeepEqual(r, Record{}) || e != api.ErrForm {
		t.Errorf("Decode of %x: %+v and %d", s, r, e)
	}
}

// checkNum takes a number of a record, those that may be and those that may not.
func checkNum(t *testing.T, r Record, name string, good, bad []int) {
	t.Helper()
	for _, n := range good {
		checkRight(t, with(r, name, n))
	}
	for _, n := range bad {
		checkNoRecord(t, with(r, name, n))
	}
}

var (
	toSixteen   = []int{1, 2, 15, 16}
	notToThese  = []int{math.MinInt, -1 << 40, -1, 0, 17, 257, 1<<32 + 1, 1 << 40, math.MaxInt}
	fromNought  = []int{0, 1, 16, 255, 1 << 32, 1<<40 - 1, 1 << 40}
	notFromThat = []int{math.MinInt, -1 << 40, -1, 1<<40 + 1, 1 << 41, math.MaxInt}
	fromOne     = fromNought[1:]
	notFromOne  = append([]int{0}, notFromThat...)
	any64       = []int{math.MinInt, -1 << 40, -1, 0, 1, 1<<40 + 1, math.MaxInt}
	aCell       = []int{0, 1, 14, 15}
	notACell    = []int{math.MinInt, -1, 16, 17, 256, 1 << 32, math.MaxInt}
)

// P7.1: the constants.
func TestKinds(t *testing.T) {
	for i, k := range []int{Base, Epoch, Cell, Prepared, Commit, Done, End, Out, In, Gone, Past, Whole} {
		if k != i+1 {
			t.Errorf("kind %d stands at %d", k, i+1)
		}
	}
}

// P7.1: a right record of each kind, its bytes and back.
func TestOneOfEach(t *testing.T) {
	for _, r := range oneOfEach() {
		checkRight(t, r)
	}
}

// P7.1: the chapter's example.
func TestExample(t *testing.T) {
	s, e := Encode(Record{Kind: End, Tid: api.Tid{Node: 1, Epoch: 1, Seq: 1}})
	if len(s) != 25 || s[0] != 7 || e != api.OK {
		t.Errorf("%x and %d", s, e)
	}
}

// P7.1: what has no kind is no record, whatever else it has.
func TestNoKind(t *testing.T) {
	for _, k := range []int{math.MinInt, -1, 0, 13, 14, 255, 256, 257, 256 + 7, 1<<32 + 7, math.MaxInt} {
		for _, r := range oneOfEach() {
			checkWrong(t, with(r, "Kind", k))
		}
	}
	for b := range 256 {
		for _, r := range oneOfEach() {
			if s := bytesOf(r)[1:]; b == 0 || b > 12 {
				checkForm(t, string([]byte{byte(b)})+s)
			}
		}
	}
	checkForm(t, "")
}

// P7.1: each field that a kind hasn't is zero: a record that has it otherwise isn't right.
func TestOtherFields(t *testing.T) {
	fields := map[int]string{
		1: "Node Count Num", 2: "Num", 3: "Cell Status Hop Node Version Value", 4: "Tid Items Nodes", 5: "Tid Items Nodes", 6: "Tid Yes",
		7: "Tid", 8: "Cell Hop Node", 9: "Cell Hop Version Value", 10: "Cell Hop", 11: "Tid Yes", 12: "",
	}
	for _, name := range []string{"Node", "Count", "Num", "Cell", "Status", "Hop", "Version", "Value"} {
		for _, r := range oneOfEach() {
			if slices.Contains(strings.Fields(fields[r.Kind]), name) {
				continue
			}
			for _, n := range []int{math.MinInt, -1, 1, 2, 1 << 40, math.MaxInt} {
				checkWrong(t, with(r, name, n))
			}
		}
	}
	for name, l := range map[string][]any{
		"Tid":   {aTid, api.Tid{Node: 1}, api.Tid{Epoch: 1}, api.Tid{Seq: -1}},
		"Items": {someItems(), someItems()[:1], make([]api.Item, 1), make([]api.Item, 17)},
		"Nodes": {[]int{1}, []int{0}, []int{3, 4}, make([]int, 17)},
		"Yes":   {true},
	} {
		for _, r := range oneOfEach() {
			if slices.Contains(strings.Fields(fields[r.Kind]), name) {
				continue
			}
			for _, v := range l {
				checkWrong(t, with(r, name, v))
			}
		}
	}
}

// P7.1: an empty list and no list are one, also where a kind has no lists.
func TestEmptyLists(t *testing.T) {
	for _, r := range oneOfEach() {
		if r.Kind == Prepared {
			continue
		}
		r.Items, r.Nodes = []api.Item{}, []int{}
		checkRight(t, r)
	}
}

// P7.1: a Base.
func TestBase(t *testing.T) {
	checkNum(t, Record{Kind: Base, Node: 1, Num: 1}, "Count", toSixteen, notToThese)
	checkNum(t, Record{Kind: Base, Node: 1, Count: 1}, "Num", toSixteen, notToThese)
	checkNum(t, Record{Kind: Base, Count: 16, Num: 1}, "Node", toSixteen, notToThese)
	for n := range 17 {
		for count := range 17 {
			r := Record{Kind: Base, Node: n, Count: count, Num: 16}
			if 1 <= n && n <= count {
				checkRight(t, r)
			} else {
				checkNoRecord(t, r)
			}
		}
	}
	for _, n := range []int{17, 1 << 40} {
		checkNoRecord(t, Record{Kind: Base, Node: n, Count: n, Num: 1})
		checkNoRecord(t, Record{Kind: Base, Node: 1, Count: n, Num: 1})
	}
}

// P7.1: an Epoch.
func TestEpoch(t *testing.T) {
	checkNum(t, Record{Kind: Epoch}, "Num", fromOne, notFromOne)
}

// P7.1: a Cell, of each Status.
func TestCell(t *testing.T) {
	for _, r := range []Record{{Kind: Cell}, {Kind: Cell, Status: 1}, {Kind: Cell, Status: 2, Node: 1}, ofKind(Cell)} {
		checkNum(t, r, "Cell", aCell, notACell)
		checkNum(t, r, "Hop", fromNought, notFromThat)
		checkNum(t, r, "Version", fromNought, notFromThat)
		checkNum(t, r, "Value", any64, nil)
	}
	checkNum(t, Record{Kind: Cell}, "Status", []int{0, 1}, []int{math.MinInt, -1, 2, 3, 4, 256, 1 << 32, math.MaxInt})
	checkNum(t, Record{Kind: Cell, Node: 1}, "Status", []int{2}, []int{math.MinInt, -1, 0, 1, 3, 4, 256 + 2, math.MaxInt})
	checkNum(t, Record{Kind: Cell, Status: 0}, "Node", []int{0}, []int{math.MinInt, -1, 1, 2, 16, 17, math.MaxInt})
	checkNum(t, Record{Kind: Cell, Status: 1}, "Node", []int{0}, []int{math.MinInt, -1, 1, 2, 16, 17, math.MaxInt})
	checkNum(t, Record{Kind: Cell, Status: 2}, "Node", toSixteen, notToThese)
}

// P7.1: a cell that goes out, comes in, is gone.
func TestOutInGone(t *testing.T) {
	for _, k := range []int{Out, In, Gone} {
		checkNum(t, ofKind(k), "Cell", aCell, notACell)
		checkNum(t, ofKind(k), "Hop", fromOne, notFromOne)
	}
	checkNum(t, ofKind(Out), "Node", toSixteen, notToThese)
	checkNum(t, ofKind(In), "Version", fromNought, notFromThat)
	checkNum(t, ofKind(In), "Value", any64, nil)
}

// P7.1: the name in each kind that has one.
func TestTid(t *testing.T) {
	for _, k := range []int{Prepared, Commit, Done, End, Past} {
		for _, n := range toSixteen {
			checkRight(t, with(ofKind(k), "Tid", api.Tid{Node: n, Epoch: 1, Seq: 1}))
		}
		for _, n := range notToThese {
			checkNoRecord(t, with(ofKind(k), "Tid", api.Tid{Node: n, Epoch: 1, Seq: 1}))
		}
		for _, n := range fromOne {
			checkRight(t, with(ofKind(k), "Tid", api.Tid{Node: 1, Epoch: n, Seq: 1}))
			checkRight(t, with(ofKind(k), "Tid", api.Tid{Node: 1, Epoch: 1, Seq: n}))
		}
		for _, n := range notFromOne {
			checkNoRecord(t, with(ofKind(k), "Tid", api.Tid{Node: 1, Epoch: n, Seq: 1}))
			checkNoRecord(t, with(ofKind(k), "Tid", api.Tid{Node: 1, Epoch: 1, Seq: n}))
		}
	}
}

// P7.1: the truth of a Done and of a Past.
func TestYes(t *testing.T) {
	for _, k := range []int{Done, Past} {
		for _, yes := range []bool{false, true} {
			checkRight(t, with(ofKind(k), "Yes", yes))
		}
		s := bytesOf(ofKind(k))
		for b := 2; b < 256; b++ {
			checkForm(t, s[:len(s)-1]+string([]byte{byte(b)}))
		}
	}
}

func itemsOf(cells ...int) []api.Item {
	var l []api.Item
	for _, c := range cells {
		l = append(l, api.Item{Cell: c})
	}
	return l
}

func upTo(from, to int) []int {
	var l []int
	for n := from; n <= to; n++ {
		l = append(l, n)
	}
	return l
}

// P7.1: items as layer 6 has them; of a Commit there may be none, of a Prepared not.
func TestItems(t *testing.T) {
	checkRight(t, Record{Kind: Commit, Tid: aTid})
	checkRight(t, Record{Kind: Commit, Tid: aTid, Nodes: []int{1}})
	checkNoRecord(t, Record{Kind: Prepared, Tid: aTid})
	checkNoRecord(t, Record{Kind: Prepared, Tid: aTid, Nodes: []int{1}, Items: []api.Item{}})
	for _, k := range []int{Prepared, Commit} {
		for _, l := range [][]api.Item{itemsOf(0), itemsOf(15), itemsOf(0, 15), itemsOf(upTo(0, 15)...), {{Version: 1<<40 - 1}}, {{Write: true}}, {{Write: true, New: math.MinInt}}} {
			checkRight(t, with(ofKind(k), "Items", l))
		}
		for _, l := range [][]api.Item{itemsOf(16), itemsOf(-1), itemsOf(0, 0), itemsOf(1, 0), itemsOf(0, 16), itemsOf(upTo(0, 16)...), itemsOf(make([]int, 17)...), {{Version: 1 << 40}}, {{Version: -1}}, {{New: 1}}} {
			checkNoRecord(t, with(ofKind(k), "Items", l))
		}
	}
}

// P7.1: nodes as layer 6 has them; there may be none.
func TestNodes(t *testing.T) {
	for _, k := range []int{Prepared, Commit} {
		for _, l := range [][]int{nil, {1}, {16}, {1, 16}, {3, 4, 9}, upTo(1, 16)} {
			checkRight(t, with(ofKind(k), "Nodes", l))
		}
		for _, l := range [][]int{{0}, {-1}, {17}, {1, 1}, {2, 1}, {1, 17}, upTo(0, 16), upTo(1, 17), {math.MinInt}, {1, math.MaxInt}} {
			checkNoRecord(t, with(ofKind(k), "Nodes", l))
		}
	}
}

// P7.1: bytes that end too early, at each place, and bytes behind the end.
func TestCutAndLonger(t *testing.T) {
	for _, r := range oneOfEach() {
		s := bytesOf(r)
		for n := range len(s) {
			checkForm(t, s[:n])
		}
		for _, more := range []string{"\x00", "\x01", "x", num8(0), s} {
			checkForm(t, s+more)
		}
	}
}

// anyNum is a number of any kind: mostly one that may be somewhere.
func anyNum(r *rand.Rand) int {
	switch r.IntN(8) {
	case 0:
		return []int{math.MinInt, -1, 16, 17, 1<<40 - 1, 1 << 40, 1<<40 + 1, math.MaxInt}[r.IntN(8)]
	case 1:
		return int(r.Uint64()) >> r.IntN(64)
	case 2, 3:
		return 0
	}
	return 1 + r.IntN(4)
}

// anyRecord has the fields of its kind, of any values.
func anyRecord(r *rand.Rand) Record {
	x := Record{Kind: 1 + r.IntN(12)}
	from := Record{Tid: api.Tid{Node: anyNum(r), Epoch: anyNum(r), Seq: anyNum(r)}, Node: anyNum(r), Count: anyNum(r), Num: anyNum(r), Cell: anyNum(r), Status: anyNum(r), Hop: anyNum(r), Version: anyNum(r), Value: anyNum(r), Yes: r.IntN(2) == 0}
	for range r.IntN(4) {
		from.Items = append(from.Items, api.Item{Cell: len(from.Items) + anyNum(r), Version: anyNum(r), Value: anyNum(r), Write: true, New: anyNum(r)})
	}
	for range r.IntN(4) {
		from.Nodes = append(from.Nodes, len(from.Nodes)+anyNum(r))
	}
	to, all := reflect.ValueOf(&x).Elem(), reflect.ValueOf(from)
	has := reflect.ValueOf(ofKind(x.Kind))
	for i := range has.NumField() {
		if i > 0 && !has.Field(i).IsZero() {
			to.Field(i).Set(all.Field(i))
		}
	}
	return x
}

// P7.1: any records: those that are right go to their bytes and back, of the others there are no bytes.
func TestAnyRecords(t *testing.T) {
	r := chance()
	right := 0
	for range 50000 {
		if x := anyRecord(r); Right(x) {
			right++
			checkRight(t, x)
		} else {
			checkNoRecord(t, x)
		}
	}
	if right < 10000 {
		t.Error("few were right:", right)
	}
}

// P7.1: bytes of any kind: those that are a record's are what that record comes to again.
func TestAnyBytes(t *testing.T) {
	r := chance()
	good := 0
	for range 200000 {
		s := []byte(bytesOf(oneOfEach()[r.IntN(12)]))
		for range 1 + r.IntN(2) {
			s[r.IntN(len(s))] = byte(r.IntN(1 + r.IntN(256)))
		}
		x, e := Decode(string(s))
		if e == api.OK {
			good++
			if again, e := Encode(x); again != string(s) || e != api.OK || !Right(x) {
				t.Errorf("%x: %+v, and of that %x, %d", s, x, again, e)
			}
		} else if e != api.ErrForm || !reflect.DeepEqual(x, Record{}) {
			t.Errorf("%x: %+v and %d", s, x, e)
		}
	}
	if good < 10000 {
		t.Error("few were good:", good)
	}
}

func checkAll(t *testing.T, want []Record, e api.Errno, l ...string) {
	t.Helper()
	got, f := All(l...)
	if !slices.EqualFunc(got, want, same) || f != e {
		t.Errorf("All of %x: %+v and %d, want %+v and %d", l, got, f, want, e)
	}
}

// P7.1: All, of none, one and many, each in its place.
func TestAll(t *testing.T) {
	checkAll(t, nil, api.OK)
	var l []string
	var want []Record
	for _, r := range append(oneOfEach(), oneOfEach()...) {
		l, want = append(l, bytesOf(r)), append(want, r)
		checkAll(t, []Record{r}, api.OK, bytesOf(r))
		checkAll(t, want, api.OK, l...)
	}
	for i := range l {
		for _, bad := range []string{"", "x", l[i] + "x", l[i][1:], "\x00"} {
			broken := slices.Clone(l)
			broken[i] = bad
			checkAll(t, nil, api.ErrForm, broken...)
		}
	}
	checkAll(t, nil, api.ErrForm, l[0]+l[1])
}

// P7.1: nothing is written into what is handed in, and what is answered shares no memory.
func TestNoSharedMemory(t *testing.T) {
	r := ofKind(Prepared)
	s, _ := Encode(r)
	if Right(r); !same(r, ofKind(Prepared)) {
		t.Error("changed:", r)
	}
	texts := []string{s, s}
	l, _ := All(texts...)
	l[0].Items[0].Value, l[0].Nodes[0] = 100, 100
	_, _ = append(l[0].Items[:1], api.Item{}), append(l[0].Nodes[:1], 100)
	if !same(l[1], r) || texts[0] != s || texts[1] != s {
		t.Error("shared:", l[1])
	}
	if again, _ := Decode(s); !same(again, r) {
		t.Error("kept:", again)
	}
}
