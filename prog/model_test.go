package prog

import (
	"math"
	"math/rand/v2"
	"regexp"
	"slices"
	"strconv"
	"strings"
	"testing"

	"remuda/api"
)

func chance() *rand.Rand { return rand.New(rand.NewPCG(1, 2)) }

// innermost is an Either with its Or and its End, without one within it.
var innermost = regexp.MustCompile(`e\.*(o)\.*d`)

// model is a program's nests by other means: letters, of which those that are innermost are struck out again and again.
type model struct {
	left   string
	places map[int][2]int
	depth  int
}

func modelOf(l []Op) model {
	var b strings.Builder
	for _, x := range l {
		switch x.Kind {
		case 10:
			b.WriteByte('e')
		case 11:
			b.WriteByte('o')
		case 12:
			b.WriteByte('d')
		default:
			b.WriteByte('.')
		}
	}
	m := model{left: b.String(), places: map[int][2]int{}}
	for innermost.MatchString(m.left) {
		for _, at := range innermost.FindAllStringSubmatchIndex(m.left, -1) {
			m.places[at[0]] = [2]int{at[2], at[1] - 1}
			m.left = m.left[:at[0]] + strings.Repeat(".", at[1]-at[0]) + m.left[at[1]:]
		}
		m.depth++
	}
	return m
}

// right tells whether a program's nests are right.
func (m model) right() bool { return strings.Trim(m.left, ".") == "" && m.depth <= 4 }

// checkNests holds a program, whose operations by themselves are right, against the model.
func checkNests(t *testing.T, l []Op) bool {
	t.Helper()
	m := modelOf(l)
	if !m.right() || len(l) > 32 {
		checkWrong(t, l...)
		return false
	}
	checkRight(t, l...)
	for at := -1; at <= len(l); at++ {
		if want, there := m.places[at]; !there {
			checkNoEither(t, l, at)
		} else if o, e := Or(l, at), End(l, at); o != want[0] || e != want[1] {
			t.Errorf("at %d of %v: %d and %d, want %v", at, l, o, e, want)
		}
	}
	return true
}

// P20.1: all programs of up to eight of Either, Or, End and another operation.
func TestAllShort(t *testing.T) {
	right := 0
	var try func(l []Op)
	try = func(l []Op) {
		if checkNests(t, l) {
			right++
		}
		if len(l) == 8 || t.Failed() {
			return
		}
		for _, x := range []Op{either, or, end, {Kind: Retry}} {
			try(append(l, x))
		}
	}
	try(nil)
	if right < 100 {
		t.Errorf("only %d are right", right)
	}
}

// allNests is all programs of n Eithers with their Ors and Ends, each of them right but perhaps for the depth.
func allNests(n int) [][]Op {
	if n == 0 {
		return [][]Op{nil}
	}
	var all [][]Op
	for a := range n {
		for b := range n - a {
			for _, left := range allNests(a) {
				for _, right := range allNests(b) {
					for _, behind := range allNests(n - 1 - a - b) {
						all = append(all, slices.Concat([]Op{either}, left, []Op{or}, right, []Op{end}, behind))
					}
				}
			}
		}
	}
	return all
}

// P20.1: all nests of up to six Eithers, of which some are too deep.
func TestAllNests(t *testing.T) {
	right, wrong := 0, 0
	for n := range 7 {
		for _, l := range allNests(n) {
			if checkNests(t, l) {
				right++
			} else {
				wrong++
			}
		}
	}
	if right < 1000 || wrong < 100 {
		t.Errorf("%d are right, %d wrong", right, wrong)
	}
}

// anyNest is a program that is right but perhaps for its length and depth.
func anyNest(r *rand.Rand, deep int) []Op {
	var l []Op
	for range r.IntN(4) {
		if r.IntN(3) < 2 && deep > 0 {
			l = slices.Concat(l, []Op{either}, anyNest(r, deep-1), []Op{or}, anyNest(r, deep-1), []Op{end})
		} else {
			l = append(l, anyOp(r))
		}
	}
	return l
}

// anyOp is a right operation that isn't Either, Or or End.
func anyOp(r *rand.Rand) Op {
	x := Op{Kind: 1 + r.IntN(9)}
	for _, name := range fieldsOf(x.Kind) {
		n := r.IntN(8)
		switch name {
		case "Cell":
			n = r.IntN(16)
		case "Num":
			n = int(r.Uint64()) >> r.IntN(64)
		}
		x = with(x, name, n)
	}
	return x
}

// spoilt is a program with one operation more, less, or at another place.
func spoilt(r *rand.Rand, l []Op) []Op {
	l = slices.Clone(l)
	at := r.IntN(len(l))
	switch r.IntN(3) {
	case 0:
		return slices.Delete(l, at, at+1)
	case 1:
		return slices.Insert(l, at, []Op{either, or, end}[r.IntN(3)])
	}
	to := r.IntN(len(l))
	l[at], l[to] = l[to], l[at]
	return l
}

// P20.1: any nests, and such as are spoilt.
func TestAnyNests(t *testing.T) {
	r := chance()
	right, wrong := 0, 0
	for range 20000 {
		l := anyNest(r, 1+r.IntN(5))
		for range 3 {
			if len(l) > 0 {
				if checkNests(t, l) {
					right++
				} else {
					wrong++
				}
				l = spoilt(r, l)
			}
		}
	}
	if right < 5000 || wrong < 5000 {
		t.Errorf("%d are right, %d wrong", right, wrong)
	}
}

// read is the operation of a line, by the chapter's list; it tells another line if there is none.
func read(line string) Op {
	kinds := []string{"", "read", "write", "set", "add", "sub", "need", "retry", "abort", "take", "either", "or", "end"}
	words := strings.Split(line, " ")
	x := Op{Kind: slices.Index(kinds, words[0])}
	for i, w := range words[1:] {
		n, _ := strconv.Atoi(strings.TrimLeft(w, "rc"))
		switch {
		case w[0] == 'c':
			x.Cell = n
		case w[0] == 'r' && i == 1 && x.Kind != 2:
			x.Other = n
		case w[0] == 'r':
			x.Reg = n
		default:
			x.Num = n
		}
	}
	return x
}

// P20.1: a program's lines tell all of it.
func TestLinesTellAll(t *testing.T) {
	r := chance()
	for range 20000 {
		l := anyNest(r, 3)
		if !Right(l...) {
			continue
		}
		lines := strings.SplitAfter(Lines(l...), "\n")
		if last := len(lines) - 1; last != len(l) || lines[last] != "" {
			t.Fatalf("%v: %q", l, lines)
		}
		for i, x := range l {
			if s := strings.TrimSuffix(lines[i], "\n"); read(s) != x {
				t.Errorf("%v: %q", x, s)
			}
		}
	}
}

// anyNum is a number of any kind: mostly one that may be somewhere.
func anyNum(r *rand.Rand) int {
	switch r.IntN(12) {
	case 0:
		return []int{math.MinInt, -1, 7, 8, 15, 16, 255, 256, math.MaxInt}[r.IntN(9)]
	case 1:
		return int(r.Uint64()) >> r.IntN(64)
	case 2, 3:
		return r.IntN(16)
	}
	return 0
}

// rightAlone tells whether an operation by itself is right, by the chapter's words.
func rightAlone(x Op) bool {
	if x.Kind < 1 || x.Kind > 12 {
		return false
	}
	rest := x
	for _, name := range fieldsOf(x.Kind) {
		rest = with(rest, name, 0)
	}
	return rest == Op{Kind: x.Kind} && 0 <= x.Cell && x.Cell <= 15 && 0 <= x.Reg && x.Reg <= 7 && 0 <= x.Other && x.Other <= 7
}

// P20.1: any operations, each around which there is a right program.
func TestAnyOps(t *testing.T) {
	r := chance()
	right := 0
	for range 100000 {
		x := Op{Kind: r.IntN(14), Cell: anyNum(r), Reg: anyNum(r), Other: anyNum(r), Num: anyNum(r)}
		if rightAlone(x) {
			right++
			checkRight(t, around(x)...)
		} else {
			checkWrong(t, around(x)...)
		}
	}
	if right < 5000 {
		t.Errorf("only %d are right", right)
	}
}

// P20.1: any bytes: what is decoded is right, and has just those bytes.
func TestAnyBytes(t *testing.T) {
	r := chance()
	right := 0
	for range 100000 {
		n := r.IntN(4)
		s := []byte{0, byte(n)}
		for range n {
			s = append(s, byte(r.IntN(14)), byte(anyNum(r)), byte(anyNum(r)), byte(anyNum(r)), 0, 0, 0, 0, 0, 0, 0, byte(anyNum(r)))
		}
		if r.IntN(8) == 0 && n > 0 {
			s[r.IntN(len(s))] ^= byte(1 + r.IntN(255))
		}
		l, e := Decode(string(s))
		if e == api.OK {
			right++
			checkRight(t, l...)
			if bytesOf(l...) != string(s) {
				t.Errorf("Decode of %x: %v", s, l)
			}
		} else {
			checkForm(t, string(s))
		}
	}
	if right < 5000 {
		t.Errorf("only %d are right", right)
	}
}
