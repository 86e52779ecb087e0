package prog

import (
	"encoding/binary"
	"fmt"
	"math"
	"reflect"
	"slices"
	"strings"
	"testing"

	"remuda/api"
)

// The kinds of which programs that nest are made.
var (
	either = Op{Kind: Either}
	or     = Op{Kind: OpOr}
	end    = Op{Kind: OpEnd}
)

// fieldsOf is the fields of each kind, by the chapter.
func fieldsOf(kind int) []string {
	return strings.Fields([]string{"", "Reg Cell", "Cell Reg", "Reg Num", "Reg Other", "Reg Other", "Reg", "", "", "Cell", "", "", ""}[kind])
}

// simple is an operation of each kind that can stand alone, with as few fields that are zero as may be, and its line.
func simple() map[string]Op {
	return map[string]Op{
		"read r1 c12\n": {Kind: Read, Reg: 1, Cell: 12},
		"write c9 r2\n": {Kind: Write, Cell: 9, Reg: 2},
		"set r3 -45\n":  {Kind: Set, Reg: 3, Num: -45},
		"add r4 r5\n":   {Kind: Add, Reg: 4, Other: 5},
		"sub r6 r7\n":   {Kind: Sub, Reg: 6, Other: 7},
		"need r7\n":     {Kind: Need, Reg: 7},
		"retry\n":       {Kind: Retry},
		"abort\n":       {Kind: Abort},
		"take c15\n":    {Kind: Take, Cell: 15},
	}
}

// around is a right program in which an operation stands: alone, or as one of an Either, an Or and an End.
func around(x Op) []Op {
	switch x.Kind {
	case Either:
		return []Op{x, or, end}
	case OpOr:
		return []Op{either, x, end}
	case OpEnd:
		return []Op{either, or, x}
	}
	return []Op{x}
}

// with is an operation with a field that stands by a name set to another number.
func with(x Op, name string, n int) Op {
	reflect.ValueOf(&x).Elem().FieldByName(name).SetInt(int64(n))
	return x
}

// bytesOf is a program's bytes, right or not, by the chapter's list.
func bytesOf(l ...Op) string {
	s := binary.BigEndian.AppendUint16(nil, uint16(len(l)))
	for _, x := range l {
		s = append(s, byte(x.Kind), byte(x.Reg), byte(x.Other), byte(x.Cell))
		s = binary.BigEndian.AppendUint64(s, uint64(x.Num))
	}
	return string(s)
}

// tellOf is a right operation's line, by the chapter's list.
func tellOf(x Op) string {
	switch x.Kind {
	case 1:
		return fmt.Sprintf("read r%d c%d\n", x.Reg, x.Cell)
	case 2:
		return fmt.Sprintf("write c%d r%d\n", x.Cell, x.Reg)
	case 3:
		return fmt.Sprintf("set r%d %d\n", x.Reg, x.Num)
	case 4:
		return fmt.Sprintf("add r%d r%d\n", x.Reg, x.Other)
	case 5:
		return fmt.Sprintf("sub r%d r%d\n", x.Reg, x.Other)
	case 6:
		return fmt.Sprintf("need r%d\n", x.Reg)
	case 9:
		return fmt.Sprintf("take c%d\n", x.Cell)
	}
	return map[int]string{7: "retry\n", 8: "abort\n", 10: "either\n", 11: "or\n", 12: "end\n"}[x.Kind]
}

func linesOf(l ...Op) string {
	var s string
	for _, x := range l {
		s += tellOf(x)
	}
	return s
}

func cellsOf(l ...Op) []int {
	var cells []int
	for c := range 16 {
		if slices.ContainsFunc(l, func(x Op) bool { return (x.Kind == 1 || x.Kind == 2 || x.Kind == 9) && x.Cell == c }) {
			cells = append(cells, c)
		}
	}
	return cells
}

func checkRight(t *testing.T, l ...Op) {
	t.Helper()
	if !Right(l...) {
		t.Errorf("%v isn't right", l)
	}
	if s, e := Encode(l...); s != bytesOf(l...) || e != api.OK {
		t.Errorf("Encode of %v: %x and %d, want %x", l, s, e, bytesOf(l...))
	}
	if back, e := Decode(bytesOf(l...)); !slices.Equal(back, l) || e != api.OK {
		t.Errorf("Decode of %x: %v and %d, want %v", bytesOf(l...), back, e, l)
	}
	if s := Lines(l...); s != linesOf(l...) {
		t.Errorf("Lines of %v: %q, want %q", l, s, linesOf(l...))
	}
	if c := Cells(l...); !slices.Equal(c, cellsOf(l...)) {
		t.Errorf("Cells of %v: %v, want %v", l, c, cellsOf(l...))
	}
}

func checkWrong(t *testing.T, l ...Op) {
	t.Helper()
	if Right(l...) {
		t.Errorf("%v is right", l)
	}
	if s, e := Encode(l...); s != "" || e != api.ErrArg {
		t.Errorf("Encode of %v: %x and %d", l, s, e)
	}
	if s := Lines(l...); s != "" {
		t.Errorf("Lines of %v: %q", l, s)
	}
	if c := Cells(l...); len(c) != 0 {
		t.Errorf("Cells of %v: %v", l, c)
	}
	for at := range min(len(l), 40) {
		checkNoEither(t, l, at)
	}
	if asBytes(l) {
		checkForm(t, bytesOf(l...))
	}
}

// asBytes tells whether a program's bytes tell it as it is, right or not.
func asBytes(l []Op) bool {
	return len(l) < 1<<16 && !slices.ContainsFunc(l, func(x Op) bool {
		return x.Kind != int(byte(x.Kind)) || x.Reg != int(byte(x.Reg)) || x.Other != int(byte(x.Other)) || x.Cell != int(byte(x.Cell))
	})
}

func checkForm(t *testing.T, s string) {
	t.Helper()
	if l, e := Decode(s); len(l) != 0 || e != api.ErrForm {
		t.Errorf("Decode of %x: %v and %d", s, l, e)
	}
}

func checkNoEither(t *testing.T, l []Op, at int) {
	t.Helper()
	if o, e := Or(l, at), End(l, at); o != -1 || e != -1 {
		t.Errorf("at %d of %v: %d and %d", at, l, o, e)
	}
}

// P20.1: the constants.
func TestKinds(t *testing.T) {
	for i, k := range []int{Read, Write, Set, Add, Sub, Need, Retry, Abort, Take, Either, OpOr, OpEnd} {
		if k != i+1 {
			t.Errorf("kind %d stands at %d", k, i+1)
		}
	}
}

// P20.1: a right operation of each kind, its bytes, its line and back.
func TestOneOfEach(t *testing.T) {
	for want, x := range simple() {
		checkRight(t, x)
		if s := Lines(x); s != want {
			t.Errorf("Lines of %v: %q, want %q", x, s, want)
		}
	}
	checkRight(t, either, or, end)
	if s := Lines(either, or, end); s != "either\nor\nend\n" {
		t.Errorf("%q", s)
	}
}

// P20.1: the chapter's example, and the order of what an operation's bytes tell.
func TestExample(t *testing.T) {
	l := []Op{{Kind: Read, Cell: 3}, {Kind: Need}, {Kind: Write, Cell: 3, Reg: 1}}
	checkRight(t, l...)
	if s := Lines(l...); s != "read r0 c3\nneed r0\nwrite c3 r1\n" {
		t.Errorf("%q", s)
	}
	want := "\x00\x03" + "\x01\x00\x00\x03" + strings.Repeat("\x00", 8) + "\x06\x00\x00\x00" + strings.Repeat("\x00", 8) + "\x02\x01\x00\x03" + strings.Repeat("\x00", 8)
	if s, e := Encode(l...); s != want || e != api.OK {
		t.Errorf("%x and %d", s, e)
	}
	want = "\x00\x02" + "\x04\x05\x06\x00" + strings.Repeat("\x00", 8) + "\x03\x07\x00\x00" + "\xff\xff\xff\xff\xff\xff\xff\xfe"
	if s, e := Encode(Op{Kind: Add, Reg: 5, Other: 6}, Op{Kind: Set, Reg: 7, Num: -2}); s != want || e != api.OK {
		t.Errorf("%x and %d", s, e)
	}
}

// P20.1: a program without operations is right.
func TestEmpty(t *testing.T) {
	checkRight(t)
	checkRight(t, []Op{}...)
	if s, e := Encode(); s != "\x00\x00" || e != api.OK {
		t.Errorf("%x and %d", s, e)
	}
	for _, at := range []int{math.MinInt, -1, 0, 1, math.MaxInt} {
		checkNoEither(t, nil, at)
		checkNoEither(t, []Op{}, at)
	}
}

// P20.1: each field that a kind has, over all numbers that it may be, and ones beyond; each that it hasn't is zero.
func TestFields(t *testing.T) {
	limit := map[string]int{"Reg": 8, "Other": 8, "Cell": 16}
	beyond := []int{math.MinInt, -1 << 32, -256, -1, 8, 15, 16, 17, 255, 256, 257, 1 << 32, 1<<32 + 1, 1 << 40, math.MaxInt}
	for kind := Read; kind <= OpEnd; kind++ {
		for _, name := range []string{"Reg", "Other", "Cell"} {
			has := slices.Contains(fieldsOf(kind), name)
			for n := range limit[name] {
				if l := around(with(Op{Kind: kind}, name, n)); has || n == 0 {
					checkRight(t, l...)
				} else {
					checkWrong(t, l...)
				}
			}
			for _, n := range beyond {
				if n < 0 || n >= limit[name] {
					checkWrong(t, around(with(Op{Kind: kind}, name, n))...)
				}
			}
		}
	}
}

// P20.1: Num of a Set may be any, of all others it is zero.
func TestNum(t *testing.T) {
	for _, n := range []int{math.MinInt, math.MinInt + 1, -1 << 40, -256, -129, -128, -10, -9, -1, 1, 9, 10, 127, 128, 255, 256, 1 << 40, math.MaxInt - 1, math.MaxInt} {
		for kind := Read; kind <= OpEnd; kind++ {
			if l := around(Op{Kind: kind, Num: n}); kind == Set {
				checkRight(t, l...)
			} else {
				checkWrong(t, l...)
			}
		}
	}
	for n, want := range map[int]string{0: "set r0 0\n", -7: "set r0 -7\n", math.MinInt: "set r0 -9223372036854775808\n", math.MaxInt: "set r0 9223372036854775807\n"} {
		if s := Lines(Op{Kind: Set, Num: n}); s != want {
			t.Errorf("%d: %q", n, s)
		}
	}
}

// P20.1: other fields beside those that a kind has, all of them right ones.
func TestOtherFields(t *testing.T) {
	for _, x := range simple() {
		for _, name := range []string{"Reg", "Other", "Cell", "Num"} {
			if !slices.Contains(fieldsOf(x.Kind), name) {
				for _, n := range []int{-1, 1, 2, 7, 15} {
					checkWrong(t, with(x, name, n))
				}
			}
		}
	}
}

// P20.1: what is of no kind is no operation, whatever else it has.
func TestNoKind(t *testing.T) {
	for _, kind := range []int{math.MinInt, -256, -1, 0, 13, 14, 128, 255, 256, 257, 256 + 7, 1<<32 + 7, math.MaxInt} {
		checkWrong(t, Op{Kind: kind})
		for _, x := range simple() {
			checkWrong(t, with(x, "Kind", kind))
			checkWrong(t, x, Op{Kind: kind})
			checkWrong(t, Op{Kind: kind}, x)
		}
	}
}

// P20.1: one operation that isn't right, at each place of a program that is right but for it.
func TestOneWrong(t *testing.T) {
	l := []Op{{Kind: Read, Cell: 3}, either, {Kind: Need, Reg: 1}, or, {Kind: Take, Cell: 2}, end, {Kind: Write, Cell: 4}}
	checkRight(t, l...)
	for at := range len(l) + 1 {
		for _, bad := range []Op{{}, {Kind: 13}, {Kind: Read, Cell: 16}, {Kind: Need, Reg: 8}, {Kind: Retry, Num: 1}, {Kind: Add, Other: -1}} {
			checkWrong(t, slices.Insert(slices.Clone(l), at, bad)...)
		}
	}
}

// P20.1: there are at most 32 operations.
func TestLength(t *testing.T) {
	for _, x := range simple() {
		for n := range 33 {
			checkRight(t, slices.Repeat([]Op{x}, n)...)
		}
		for _, n := range []int{33, 34, 64, 255, 256, 257, 288, 65535, 65536, 65537, 65568} {
			checkWrong(t, slices.Repeat([]Op{x}, n)...)
		}
	}
	nest := []Op{either, or, end}
	checkRight(t, slices.Repeat(nest, 10)...)
	checkRight(t, append(slices.Repeat(nest, 10), Op{Kind: Abort}, Op{Kind: Abort})...)
	checkWrong(t, slices.Repeat(nest, 11)...)
	checkWrong(t, append(slices.Repeat(nest, 10), Op{Kind: Abort}, Op{Kind: Abort}, Op{Kind: Abort})...)
}

// P20.1: bytes that end too early, at each place, bytes behind the end, and counts of fewer or more operations than there are.
func TestCutAndLonger(t *testing.T) {
	l := []Op{either, {Kind: Read, Cell: 3, Reg: 1}, or, {Kind: Set, Num: -1}, end}
	for _, l := range [][]Op{l, nil, l[1:2], slices.Repeat(l[3:4], 32)} {
		s := bytesOf(l...)
		for n := range len(s) {
			checkForm(t, s[:n])
		}
		for _, more := range []string{"\x00", "\x01", "x", "\x00\x00", bytesOf(Op{Kind: Abort})[2:], s} {
			checkForm(t, s+more)
		}
		for n := range 1 << 16 {
			if n != len(l) {
				checkForm(t, string([]byte{byte(n >> 8), byte(n)})+s[2:])
			}
		}
	}
}

// P20.1: each byte of a program, by every other one: what is decoded is right, and has just those bytes.
func TestEachByte(t *testing.T) {
	var l []Op
	for _, x := range simple() {
		l = append(l, x)
	}
	good := bytesOf(append(l, either, or, end)...)
	right := 0
	for at := range len(good) {
		for b := range 256 {
			s := good[:at] + string([]byte{byte(b)}) + good[at+1:]
			x, e := Decode(s)
			if e == api.OK {
				right++
				if !Right(x...) || bytesOf(x...) != s {
					t.Errorf("Decode of %x: %v", s, x)
				}
			} else if e != api.ErrForm || len(x) != 0 {
				t.Errorf("Decode of %x: %v and %d", s, x, e)
			}
		}
	}
	if right < len(good) {
		t.Errorf("%d are right", right)
	}
}

// P20.1: the cells, each once, rising, of those kinds alone.
func TestCells(t *testing.T) {
	checkCells := func(want []int, l ...Op) {
		t.Helper()
		if c := Cells(l...); !slices.Equal(c, want) {
			t.Errorf("Cells of %v: %v, want %v", l, c, want)
		}
	}
	checkCells(nil, Op{Kind: Set}, Op{Kind: Add}, Op{Kind: Sub}, Op{Kind: Need}, Op{Kind: Retry}, Op{Kind: Abort}, either, or, end)
	for c := range 16 {
		for _, kind := range []int{Read, Write, Take} {
			checkCells([]int{c}, Op{Kind: kind, Cell: c})
			checkCells([]int{c}, Op{Kind: Read, Cell: c}, Op{Kind: Need}, Op{Kind: kind, Cell: c}, Op{Kind: Take, Cell: c})
			checkCells([]int{c}, either, or, Op{Kind: kind, Cell: c}, end)
			checkCells([]int{c}, either, Op{Kind: kind, Cell: c}, or, end)
			checkCells([]int{c}, Op{Kind: Abort}, Op{Kind: kind, Cell: c})
		}
	}
	checkCells([]int{0, 2, 5, 15}, Op{Kind: Write, Cell: 15}, Op{Kind: Read, Cell: 2}, Op{Kind: Take, Cell: 5}, Op{Kind: Read, Cell: 15}, Op{Kind: Write}, Op{Kind: Set, Reg: 7, Num: 9})
	var down []Op
	for c := range 16 {
		down = append(down, Op{Kind: Read + c%2, Cell: 15 - c}, Op{Kind: Take, Cell: 15 - c})
	}
	checkCells([]int{0, 1, 2, 3, 4, 5, 6, 7, 8, 9, 10, 11, 12, 13, 14, 15}, down...)
}

// P20.1: Right and wrong kinds of nests, by the chapter's words.
func TestNests(t *testing.T) {
	plain := Op{Kind: Abort}
	for _, l := range [][]Op{
		{either, or, end},
		{plain, either, plain, or, plain, end, plain},
		{either, or, end, either, or, end},
		{either, either, or, end, or, end},
		{either, or, either, or, end, end},
		{either, either, or, end, either, or, end, or, either, or, end, end},
	} {
		checkRight(t, l...)
	}
	for _, l := range [][]Op{
		{either}, {or}, {end},
		{either, or}, {either, end}, {or, end}, {end, or, either}, {or, either, end}, {either, end, or}, {end, either, or}, {or, end, either},
		{either, or, or, end}, {either, or, end, end}, {either, or, end, or}, {either, or, end, either}, {or, either, or, end}, {end, either, or, end},
		{either, either, or, end}, {either, either, or, or, end, end}, {either, or, either, end, or, end}, {either, either, or, end, end, or},
		{either, either, end, or, or, end}, {either, plain, end}, {either, plain, or, plain},
	} {
		checkWrong(t, l...)
	}
}

// P20.1: four are within one another, five aren't, ahead of the Or or behind it.
func TestDepth(t *testing.T) {
	for sides := range 1 << 5 {
		var l []Op
		for depth := range 5 {
			if sides>>depth&1 == 0 {
				l = slices.Concat([]Op{either}, l, []Op{or, end})
			} else {
				l = slices.Concat([]Op{either, or}, l, []Op{end})
			}
			if depth < 4 {
				checkRight(t, l...)
				checkRight(t, slices.Concat(l, l)...)
			} else {
				checkWrong(t, l...)
				checkWrong(t, slices.Concat([]Op{either, or, end}, l)...)
			}
		}
	}
}

// P20.1: where the Or and the End of an Either stand; elsewhere none do.
func TestOrEnd(t *testing.T) {
	l := []Op{{Kind: Retry}, either, either, or, {Kind: Abort}, end, or, either, {Kind: Need}, or, end, end, either, or, end, {Kind: Abort}}
	want := map[int][2]int{1: {6, 11}, 2: {3, 5}, 7: {9, 10}, 12: {13, 14}}
	for at := -40; at < 40; at++ {
		if w, there := want[at]; !there {
			checkNoEither(t, l, at)
		} else if o, e := Or(l, at), End(l, at); o != w[0] || e != w[1] {
			t.Errorf("at %d: %d and %d, want %v", at, o, e, w)
		}
	}
	for _, at := range []int{math.MinInt, math.MinInt + 1, -1 << 32, 1 << 32, 1<<32 + 1, math.MaxInt} {
		checkNoEither(t, l, at)
	}
}

// P20.1: of a program that isn't right no Or and no End is told, also of an Either that has them.
func TestOrEndOfWrong(t *testing.T) {
	nest := []Op{either, or, end}
	for _, l := range [][]Op{
		append(slices.Clone(nest), Op{}), append(slices.Clone(nest), or), append(slices.Clone(nest), either), append(slices.Clone(nest), Op{Kind: Read, Cell: 16}),
		slices.Concat([]Op{{Kind: Abort, Num: 1}}, nest), slices.Concat([]Op{either}, nest), slices.Repeat(nest, 11), {either, with(or, "Reg", 1), end}, {either, or, with(end, "Cell", 1)},
		slices.Concat(nest, slices.Repeat([]Op{{Kind: Abort}}, 30)),
	} {
		checkWrong(t, l...)
		for at := range l {
			checkNoEither(t, l, at)
		}
	}
}

// P20.1: no argument is written into, no answer shares memory with one, nor with another answer.
func TestMemory(t *testing.T) {
	l := []Op{{Kind: Take, Cell: 9}, either, {Kind: Read, Cell: 3}, or, {Kind: Write, Cell: 3}, end}
	room := append(slices.Clone(l), Op{Kind: 99}, Op{Kind: 98})
	is := slices.Clone(room)
	part := room[:len(l)]
	s, _ := Encode(part...)
	Right(part...)
	Lines(part...)
	Or(part, 1)
	End(part, 1)
	cells := Cells(part...)
	clear(cells[:cap(cells)])
	if !slices.Equal(Cells(part...), []int{3, 9}) || !slices.Equal(room, is) {
		t.Errorf("%v and %v", Cells(part...), room)
	}
	first, _ := Decode(s)
	clear(first[:cap(first)])
	if again, e := Decode(s); !slices.Equal(again, l) || e != api.OK {
		t.Errorf("%v and %d", again, e)
	}
	checkWrong(t, room...)
	if !slices.Equal(room, is) {
		t.Errorf("%v", room)
	}
}
