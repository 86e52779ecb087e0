package disk

import (
	"math"
	"math/rand/v2"
	"slices"
	"strings"
	"testing"
	"unsafe"

	"remuda/api"
)

func chance() *rand.Rand { return rand.New(rand.NewPCG(1, 2)) }

// store is what a disk can do; the model below does the same by other means.
type store interface {
	Append(l ...string) api.Errno
	Sync() api.Errno
	Drop(n int) api.Errno
	Cut(n int) api.Errno
	Bytes() string
	Safe() int
	Size() int
	Down() bool
	Fuse(n int)
	Crash(keep int)
}

// model is a disk as the chapter's words have it, byte by byte: it holds what is safe apart from what isn't, and counts a fuse down one by one.
type model struct {
	size        int
	safe, loose string
	fused       bool
	left        int
	isDown      bool
}

// burn spends one byte of the fuse, and tells whether there was one.
func (m *model) burn() bool {
	if m.fused && m.left == 0 {
		m.isDown = true
		return false
	}
	m.left--
	return true
}

func (m *model) Append(l ...string) api.Errno {
	all := strings.Join(l, "")
	switch {
	case m.isDown:
		return api.ErrDown
	case len(m.safe)+len(m.loose)+len(all) > m.size:
		return api.ErrFull
	}
	for i := range len(all) {
		if !m.burn() {
			return api.ErrDown
		}
		m.loose += all[i : i+1]
	}
	return api.OK
}

func (m *model) Sync() api.Errno {
	if m.isDown || !m.burn() {
		return api.ErrDown
	}
	m.safe, m.loose = m.safe+m.loose, ""
	return api.OK
}

func (m *model) Drop(n int) api.Errno {
	switch {
	case m.isDown:
		return api.ErrDown
	case n < 0, n > len(m.safe):
		return api.ErrArg
	case !m.burn():
		return api.ErrDown
	}
	m.safe = m.safe[n:]
	return api.OK
}

func (m *model) Cut(n int) api.Errno {
	switch {
	case m.isDown:
		return api.ErrDown
	case n < 0, n > len(m.safe)+len(m.loose):
		return api.ErrArg
	case n <= len(m.safe):
		m.safe, m.loose = m.safe[:n], ""
	default:
		m.loose = m.loose[:n-len(m.safe)]
	}
	return api.OK
}

func (m *model) Bytes() string { return m.safe + m.loose }
func (m *model) Safe() int     { return len(m.safe) }
func (m *model) Size() int     { return m.size }
func (m *model) Down() bool    { return m.isDown }
func (m *model) Fuse(n int)    { m.fused, m.left = n >= 0, n }

func (m *model) Crash(keep int) {
	switch {
	case keep < 0:
		keep = 0
	case keep > len(m.loose):
		keep = len(m.loose)
	}
	*m = model{size: m.size, safe: m.safe + m.loose[:keep]}
}

// fresh is an empty disk of a size.
func fresh(t *testing.T, size int) *Disk {
	t.Helper()
	d, e := New(size)
	if d == nil || e != api.OK {
		t.Fatalf("New(%d): %d", size, e)
	}
	return d
}

// with is a disk of ten bytes' size that has these bytes, safe ones and others behind them, and that fuse.
func with(t *testing.T, safe, loose string, fuse int) *Disk {
	t.Helper()
	d := fresh(t, 10)
	checkError(t, "Append of what is to be safe", d.Append(safe), api.OK)
	checkError(t, "Sync", d.Sync(), api.OK)
	checkError(t, "Append of the rest", d.Append(loose), api.OK)
	d.Fuse(fuse)
	return d
}

func checkError(t *testing.T, what string, got, want api.Errno) {
	t.Helper()
	if got != want {
		t.Errorf("%s: %d, want %d", what, got, want)
	}
}

// checkHas tells whether a disk has these bytes, so many of them safe, and is down or not.
func checkHas(t *testing.T, d *Disk, bytes string, safe int, down bool) {
	t.Helper()
	if d.Bytes() != bytes || d.Safe() != safe || d.Down() != down {
		t.Errorf("it has %.40q, %d safe, down %t; want %.40q, %d, %t", d.Bytes(), d.Safe(), d.Down(), bytes, safe, down)
	}
}

// checkLeft tells whether a disk lets just n bytes more be put: it is full of them, or goes down behind them.
func checkLeft(t *testing.T, d *Disk, n int) {
	t.Helper()
	before := d.Bytes()
	for range n {
		checkError(t, "Append of a byte that the fuse lets be put", d.Append("+"), api.OK)
	}
	checkError(t, "Append of one more", d.Append("-"), api.ErrDown)
	if d.Bytes() != before+strings.Repeat("+", n) || !d.Down() {
		t.Errorf("it has %q, down %t, behind %d bytes more than %q", d.Bytes(), d.Down(), n, before)
	}
}

// checkNoFuse tells whether a disk may be filled and goes on.
func checkNoFuse(t *testing.T, d *Disk) {
	t.Helper()
	for range 20 {
		checkError(t, "Sync without a fuse", d.Sync(), api.OK)
		checkError(t, "Drop without a fuse", d.Drop(0), api.OK)
	}
	checkError(t, "Append of all that fits", d.Append(strings.Repeat("+", d.Size()-len(d.Bytes()))), api.OK)
	checkError(t, "Append of one more", d.Append("+"), api.ErrFull)
}

// P4.1: the chapter's example.
func TestExample(t *testing.T) {
	d := fresh(t, 10)
	checkError(t, "Append", d.Append("ab"), api.OK)
	checkError(t, "Sync", d.Sync(), api.OK)
	checkError(t, "Append", d.Append("cd"), api.OK)
	checkHas(t, d, "abcd", 2, false)
	d.Crash(1)
	checkHas(t, d, "abc", 3, false)
}

// P4.1: an empty disk of each size that may be, and none of another size.
func TestNew(t *testing.T) {
	for _, size := range []int{0, 1, 2, 4096, 1<<20 - 1, 1 << 20} {
		d := fresh(t, size)
		checkHas(t, d, "", 0, false)
		if d.Size() != size {
			t.Errorf("Size of a disk of %d: %d", size, d.Size())
		}
		checkNoFuse(t, d)
	}
	for _, size := range []int{-1, -2, math.MinInt, 1<<20 + 1, 1 << 32, math.MaxInt} {
		if d, e := New(size); d != nil || e != api.ErrArg {
			t.Errorf("New(%d) = %v, %d", size, d, e)
		}
	}
}

// P4.1: a disk of no bytes takes nothing, but all else is as with any other.
func TestDiskOfNoBytes(t *testing.T) {
	d := fresh(t, 0)
	checkError(t, "Append of nothing", d.Append(), api.OK)
	checkError(t, "Append of empty texts", d.Append("", ""), api.OK)
	checkError(t, "Append of a byte", d.Append("a"), api.ErrFull)
	checkError(t, "Sync", d.Sync(), api.OK)
	checkError(t, "Drop(0)", d.Drop(0), api.OK)
	checkError(t, "Drop(1)", d.Drop(1), api.ErrArg)
	checkError(t, "Cut(0)", d.Cut(0), api.OK)
	checkError(t, "Cut(1)", d.Cut(1), api.ErrArg)
	d.Crash(3)
	checkHas(t, d, "", 0, false)
	d.Fuse(0)
	checkError(t, "Append of a byte, with a fuse", d.Append("a"), api.ErrFull)
	checkError(t, "Sync, the fuse spent", d.Sync(), api.ErrDown)
	checkHas(t, d, "", 0, true)
}

// P4.1: two disks have nothing to do with one another.
func TestTwoDisks(t *testing.T) {
	a, b := fresh(t, 3), fresh(t, 5)
	a.Append("abc")
	b.Append("x")
	b.Sync()
	b.Fuse(0)
	b.Append("y")
	checkHas(t, a, "abc", 0, false)
	checkHas(t, b, "x", 1, true)
	if a.Size() != 3 || b.Size() != 5 {
		t.Error(a.Size(), b.Size())
	}
}

// P4.1: no text, empty ones, and several, one behind the other, behind what was there.
func TestAppend(t *testing.T) {
	for _, x := range []struct {
		l    []string
		want string
	}{
		{nil, ""},
		{[]string{}, ""},
		{[]string{""}, ""},
		{make([]string, 1000), ""},
		{[]string{"a"}, "a"},
		{[]string{"ab", "", "cd"}, "abcd"},
		{[]string{"", "b", "a", "", "a", ""}, "baa"},
		{[]string{"\x00\xff", "\xc3", "\xa4\n"}, "\x00\xff\xc3\xa4\n"},
	} {
		for _, safe := range []string{"", "sa"} {
			for _, loose := range []string{"", "lo"} {
				d := with(t, safe, loose, -1)
				checkError(t, "Append", d.Append(x.l...), api.OK)
				checkHas(t, d, safe+loose+x.want, len(safe), false)
				d.Crash(99)
				checkHas(t, d, safe+loose+x.want, len(safe+loose+x.want), false)
			}
		}
	}
}

// P4.1: what just fits is put; of what has one byte more nothing is, not even the texts that would fit, and it isn't down.
func TestAppendOfWhatFits(t *testing.T) {
	for _, l := range [][]string{{"efghij"}, {"efg", "hij"}, {"", "efghij", ""}, {"e", "f", "g", "h", "i", "j"}} {
		d := with(t, "ab", "cd", -1)
		checkError(t, "Append of what just fits", d.Append(l...), api.OK)
		checkHas(t, d, "abcdefghij", 2, false)
		checkError(t, "Append of nothing to a full disk", d.Append("", ""), api.OK)
		checkError(t, "Append of a byte to a full disk", d.Append("k"), api.ErrFull)
		checkHas(t, d, "abcdefghij", 2, false)
	}
	for _, l := range [][]string{
		{"efghijk"}, {"efghij", "k"}, {"efghij", "", "k", ""}, {"e", "fghijk"}, {"", "efghijk"}, {strings.Repeat("x", 1<<20), "a"},
		slices.Repeat([]string{strings.Repeat("x", 1<<20)}, 1<<20),
	} {
		d := with(t, "ab", "cd", -1)
		checkError(t, "Append of what doesn't fit", d.Append(l...), api.ErrFull)
		checkHas(t, d, "abcd", 2, false)
		checkError(t, "Append of what fits, behind it", d.Append("efghij"), api.OK)
		checkHas(t, d, "abcdefghij", 2, false)
	}
}

// P4.1: the greatest disk takes all its bytes, in one text or in many.
func TestAppendToTheGreatestDisk(t *testing.T) {
	s := strings.Repeat("0123456789abcdef", 1<<16)
	d, many := fresh(t, 1<<20), fresh(t, 1<<20)
	checkError(t, "Append of one byte more", d.Append(s, "x"), api.ErrFull)
	checkError(t, "Append of all", d.Append(s), api.OK)
	for i := range len(s) {
		if e := many.Append(s[i : i+1]); e != api.OK {
			t.Fatalf("Append of the byte %d: %d", i, e)
		}
	}
	for _, d := range []*Disk{d, many} {
		if d.Bytes() != s || d.Append("x") != api.ErrFull || d.Sync() != api.OK || d.Safe() != 1<<20 || d.Drop(1<<20-1) != api.OK {
			t.Error("not as it was put")
		}
		checkHas(t, d, "f", 1, false)
	}
}

// P4.1: what is dropped and cut makes room.
func TestRoomAgain(t *testing.T) {
	d := fresh(t, 4)
	for i := range 100 {
		checkError(t, "Append of all that fits", d.Append("abcd"), api.OK)
		checkError(t, "Sync", d.Sync(), api.OK)
		checkError(t, "Append of one more", d.Append("e"), api.ErrFull)
		if i%2 == 0 {
			checkError(t, "Drop", d.Drop(3), api.OK)
		} else {
			checkError(t, "Cut", d.Cut(1), api.OK)
		}
		checkError(t, "Append of what is too much by one", d.Append("efgh"), api.ErrFull)
		checkError(t, "Cut", d.Cut(0), api.OK)
	}
	d.Append("abcd")
	d.Crash(1)
	checkError(t, "Append behind a crash", d.Append("xyz"), api.OK)
	checkHas(t, d, "axyz", 1, false)
}

// P4.1: of texts that have more bytes than the fuse, just those are put, wherever it breaks off; what it has enough for goes on.
func TestAppendWithAFuse(t *testing.T) {
	for _, l := range [][]string{{"uvwxyz"}, {"uv", "wxyz"}, {"uvw", "xyz"}, {"", "uv", "", "wx", "", "yz", ""}, {"u", "v", "w", "x", "y", "z"}} {
		for fuse := range 10 {
			d := with(t, "ab", "c", fuse)
			if fuse < 6 {
				checkError(t, "Append of more than the fuse", d.Append(l...), api.ErrDown)
				checkHas(t, d, "abcuvwxyz"[:3+fuse], 2, true)
				d.Crash(99)
				checkHas(t, d, "abcuvwxyz"[:3+fuse], 3+fuse, false)
				continue
			}
			checkError(t, "Append of no more than the fuse", d.Append(l...), api.OK)
			checkHas(t, d, "abcuvwxyz", 2, false)
			if fuse == 6 { // else the disk would be full first
				checkLeft(t, d, 0)
			}
		}
	}
}

// P4.1: a fuse that is spent to its last byte leaves the disk up till the next one; nothing takes none of it.
func TestAppendOfAllThatTheFuseHas(t *testing.T) {
	d := with(t, "ab", "", 3)
	checkError(t, "Append", d.Append("c", "de"), api.OK)
	for _, l := range [][]string{nil, {""}, {"", ""}} {
		checkError(t, "Append of nothing", d.Append(l...), api.OK)
		checkHas(t, d, "abcde", 2, false)
	}
	checkError(t, "Append of one more", d.Append("f"), api.ErrDown)
	checkHas(t, d, "abcde", 2, true)
	checkError(t, "Append of nothing to a disk that is down", d.Append(), api.ErrDown)
}

// P4.1: that it doesn't fit is asked ahead of the fuse, and spends nothing of it.
func TestFullAheadOfTheFuse(t *testing.T) {
	for fuse := range 5 {
		d := with(t, "abcd", "", fuse)
		checkError(t, "Append of one byte too much", d.Append("efghi", "jk"), api.ErrFull)
		checkHas(t, d, "abcd", 4, false)
		checkLeft(t, d, fuse)
	}
}

// P4.1: all bytes are safe behind a Sync, whether there were new ones or not.
func TestSync(t *testing.T) {
	for _, safe := range []string{"", "ab"} {
		for _, loose := range []string{"", "cde"} {
			d := with(t, safe, loose, -1)
			for range 3 {
				checkError(t, "Sync", d.Sync(), api.OK)
				checkHas(t, d, safe+loose, len(safe+loose), false)
			}
			d.Crash(0)
			checkHas(t, d, safe+loose, len(safe+loose), false)
		}
	}
}

// P4.1: a Sync spends one byte of the fuse, whether there is something to sync or not; of none it makes the disk go down, and nothing is safe by it.
func TestSyncWithAFuse(t *testing.T) {
	for _, loose := range []string{"", "cd"} {
		d := with(t, "ab", loose, 0)
		checkError(t, "Sync, the fuse spent", d.Sync(), api.ErrDown)
		checkHas(t, d, "ab"+loose, 2, true)

		d = with(t, "ab", loose, 1)
		checkError(t, "Sync, one byte left", d.Sync(), api.OK)
		checkHas(t, d, "ab"+loose, 2+len(loose), false)
		checkError(t, "Sync, the fuse spent by a Sync", d.Sync(), api.ErrDown)
		checkHas(t, d, "ab"+loose, 2+len(loose), true)

		d = with(t, "ab", loose, 5)
		checkError(t, "Sync", d.Sync(), api.OK)
		checkError(t, "Sync", d.Sync(), api.OK)
		checkLeft(t, d, 3)
	}
	d := with(t, "ab", "", 1)
	checkError(t, "Append", d.Append("c"), api.OK)
	checkError(t, "Sync, the fuse spent by an Append", d.Sync(), api.ErrDown)
	checkHas(t, d, "abc", 2, true)
}

// P4.1: the first bytes are gone, as far as they are safe.
func TestDrop(t *testing.T) {
	for n := -3; n < 9; n++ {
		d := with(t, "abcd", "ef", -1)
		if n < 0 || n > 4 {
			checkError(t, "Drop of what may not be", d.Drop(n), api.ErrArg)
			checkHas(t, d, "abcdef", 4, false)
			continue
		}
		checkError(t, "Drop", d.Drop(n), api.OK)
		checkHas(t, d, "abcdef"[n:], 4-n, false)
		checkError(t, "Append", d.Append("xyz"), api.OK)
		d.Crash(1)
		checkHas(t, d, "abcde"[n:], 5-n, false)
	}
	for _, n := range []int{math.MinInt, math.MaxInt, -1 << 32, 1 << 32} {
		d := with(t, "abcd", "ef", 2)
		checkError(t, "Drop of what may not be", d.Drop(n), api.ErrArg)
		checkHas(t, d, "abcdef", 4, false)
		checkLeft(t, d, 2)
	}
}

// P4.1: a Drop that may be spends one byte of the fuse; of none it makes the disk go down, and drops nothing.
func TestDropWithAFuse(t *testing.T) {
	for n := range 4 {
		d := with(t, "abc", "de", 0)
		checkError(t, "Drop, the fuse spent", d.Drop(n), api.ErrDown)
		checkHas(t, d, "abcde", 3, true)
		d.Crash(0)
		checkHas(t, d, "abc", 3, false)

		d = with(t, "abc", "de", 1)
		checkError(t, "Drop, one byte left", d.Drop(n), api.OK)
		checkHas(t, d, "abcde"[n:], 3-n, false)
		checkError(t, "Drop, the fuse spent by a Drop", d.Drop(0), api.ErrDown)
		checkHas(t, d, "abcde"[n:], 3-n, true)

		d = with(t, "abc", "de", 3)
		checkError(t, "Drop", d.Drop(n), api.OK)
		checkLeft(t, d, 2)
	}
}

// P4.1: that a Drop may not be is asked ahead of the fuse, and spends nothing of it.
func TestDropOfWhatMayNotBeAheadOfTheFuse(t *testing.T) {
	for _, n := range []int{-1, 3} {
		for fuse := range 3 {
			d := with(t, "ab", "cd", fuse)
			checkError(t, "Drop of what may not be", d.Drop(n), api.ErrArg)
			checkHas(t, d, "abcd", 2, false)
			checkLeft(t, d, fuse)
		}
	}
}

// P4.1: all but the first bytes are gone, safe or not, and those that were put behind aren't safe because others had been.
func TestCut(t *testing.T) {
	for n := -3; n < 9; n++ {
		d := with(t, "abcd", "ef", -1)
		if n < 0 || n > 6 {
			checkError(t, "Cut of what may not be", d.Cut(n), api.ErrArg)
			checkHas(t, d, "abcdef", 4, false)
			continue
		}
		checkError(t, "Cut", d.Cut(n), api.OK)
		checkHas(t, d, "abcdef"[:n], min(n, 4), false)
		checkError(t, "Cut of one more", d.Cut(n+1), api.ErrArg)
		checkError(t, "Append", d.Append("xyz"), api.OK)
		checkHas(t, d, "abcdef"[:n]+"xyz", min(n, 4), false)
		d.Crash(max(n-4, 0) + 1)
		checkHas(t, d, "abcdef"[:n]+"x", n+1, false)
	}
	for _, n := range []int{math.MinInt, math.MaxInt, -1 << 32, 1 << 32} {
		d := with(t, "abcd", "ef", -1)
		checkError(t, "Cut of what may not be", d.Cut(n), api.ErrArg)
		checkHas(t, d, "abcdef", 4, false)
	}
}

// P4.1: a Cut spends nothing, and asks for nothing of the fuse.
func TestCutWithAFuse(t *testing.T) {
	for fuse := range 4 {
		d := with(t, "ab", "cd", fuse)
		for _, n := range []int{5, 4, 3, 3, 2, 1, -1, 0, 0} {
			want := api.OK
			if n < 0 || n > 4 {
				want = api.ErrArg
			}
			checkError(t, "Cut", d.Cut(n), want)
		}
		checkHas(t, d, "", 0, false)
		checkLeft(t, d, fuse)
	}
}

// P4.1: a disk that is down refuses all that would change it, whatever it is handed, tells what it has, and stays down whatever fuse it gets, till a crash.
func TestDown(t *testing.T) {
	for _, goDown := range []func(d *Disk) api.Errno{
		func(d *Disk) api.Errno { return d.Append("c", "de") },
		func(d *Disk) api.Errno { d.Append("c"); return d.Sync() },
		func(d *Disk) api.Errno { d.Append("c"); return d.Drop(1) },
	} {
		d := with(t, "ab", "", 1)
		checkError(t, "what is one byte too much for the fuse", goDown(d), api.ErrDown)
		for _, fuse := range []int{0, 1, 5, math.MaxInt, -1, math.MinInt} {
			for _, l := range [][]string{nil, {""}, {"x"}, {strings.Repeat("x", 11)}, {strings.Repeat("x", 1<<21)}} {
				checkError(t, "Append", d.Append(l...), api.ErrDown)
			}
			for _, n := range []int{-1, 0, 1, 2, 3, 4, 9, math.MinInt, math.MaxInt} {
				checkError(t, "Drop", d.Drop(n), api.ErrDown)
				checkError(t, "Cut", d.Cut(n), api.ErrDown)
			}
			checkError(t, "Sync", d.Sync(), api.ErrDown)
			checkHas(t, d, "abc", 2, true)
			if d.Size() != 10 {
				t.Error(d.Size())
			}
			d.Fuse(fuse)
		}
		d.Crash(1)
		checkHas(t, d, "abc", 3, false)
		checkNoFuse(t, d)
	}
}

// P4.1: a fuse of n lets n more go, whichever they are; below 0 there is none.
func TestFuse(t *testing.T) {
	for n := range 6 {
		d := with(t, "ab", "", n)
		checkHas(t, d, "ab", 2, false)
		checkLeft(t, d, n)
	}
	for _, n := range []int{-1, -2, math.MinInt} {
		checkNoFuse(t, with(t, "ab", "", n))
	}
	checkNoFuse(t, with(t, "ab", "", math.MaxInt))

	d := with(t, "", "", 6)
	checkError(t, "Append of two", d.Append("ab"), api.OK)
	checkError(t, "Sync", d.Sync(), api.OK)
	checkError(t, "Append of one", d.Append("c"), api.OK)
	checkError(t, "Cut", d.Cut(2), api.OK)
	checkError(t, "Drop", d.Drop(1), api.OK)
	checkLeft(t, d, 1)
}

// P4.1: a fuse is there in place of the one that was, whatever was spent of that.
func TestFuseAnew(t *testing.T) {
	for _, first := range []int{-1, 0, 1, 2, 5} {
		for _, put := range []string{"", "x"} {
			for n := range 4 {
				d := with(t, "ab", "", first)
				if len(put) > first && first >= 0 {
					continue
				}
				checkError(t, "Append", d.Append(put), api.OK)
				d.Fuse(n)
				checkLeft(t, d, n)
			}
			if first != 0 || put == "" {
				d := with(t, "ab", "", first)
				checkError(t, "Append", d.Append(put), api.OK)
				d.Fuse(-1)
				checkNoFuse(t, d)
			}
		}
	}
}

// P4.1: a crash keeps as many as is told, but no fewer than none and no more than all.
func TestCrash(t *testing.T) {
	for _, x := range []struct{ keep, want int }{
		{math.MinInt, 0}, {-4, 0}, {-1, 0}, {0, 0}, {1, 1}, {2, 2}, {3, 3}, {4, 4}, {5, 4}, {7, 4}, {math.MaxInt - 1, 4}, {math.MaxInt, 4},
	} {
		for _, safe := range []string{"", "abc"} {
			d := with(t, safe, "wxyz", -1)
			d.Crash(x.keep)
			checkHas(t, d, safe+"wxyz"[:x.want], len(safe)+x.want, false)
			if d.Size() != 10 {
				t.Error(d.Size())
			}
			checkNoFuse(t, d)

			d = with(t, safe, "", -1)
			d.Crash(x.keep)
			checkHas(t, d, safe, len(safe), false)
		}
	}
}

// P4.1: behind a crash there is no fuse, one that was there, and one that was spent.
func TestCrashTakesTheFuse(t *testing.T) {
	for fuse := range 4 {
		d := with(t, "ab", "cd", fuse)
		d.Crash(1)
		checkHas(t, d, "abc", 3, false)
		checkNoFuse(t, d)

		d = with(t, "ab", "cd", fuse)
		checkError(t, "Append of more than the fuse", d.Append("wxyz"), api.ErrDown)
		d.Crash(1)
		checkHas(t, d, "abc", 3, false)
		d.Fuse(2)
		checkLeft(t, d, 2)
	}
}

// P4.1: a second crash keeps all that the first one kept, and of what came since as many as is told.
func TestTwoCrashes(t *testing.T) {
	for first := range 5 {
		for second := -1; second < 5; second++ {
			d := with(t, "ab", "cdef", -1)
			d.Crash(first)
			d.Crash(second)
			checkHas(t, d, "abcdef"[:2+first], 2+first, false)

			d = with(t, "ab", "cdef", 9)
			d.Crash(first)
			checkError(t, "Append", d.Append("xyz"), api.OK)
			d.Crash(second)
			kept := max(0, min(second, 3))
			checkHas(t, d, "abcdef"[:2+first]+"xyz"[:kept], 2+first+kept, false)
		}
	}
}

// P4.1: a nil disk is down, has nothing, and takes nothing.
func TestNilDisk(t *testing.T) {
	var d *Disk
	for range 2 {
		for _, n := range []int{math.MinInt, -1, 0, 1, 5, math.MaxInt} {
			checkError(t, "Drop", d.Drop(n), api.ErrDown)
			checkError(t, "Cut", d.Cut(n), api.ErrDown)
			d.Fuse(n)
			d.Crash(n)
		}
		for _, l := range [][]string{nil, {""}, {"a", "b"}, {strings.Repeat("x", 1<<20+1)}} {
			checkError(t, "Append", d.Append(l...), api.ErrDown)
		}
		checkError(t, "Sync", d.Sync(), api.ErrDown)
		checkHas(t, d, "", 0, true)
		if d.Size() != 0 {
			t.Error(d.Size())
		}
	}
}

// calls is calls of every kind, with the edges of a small disk.
func calls() []func(s store) api.Errno {
	l := []func(s store) api.Errno{
		func(s store) api.Errno { return s.Append() },
		func(s store) api.Errno { return s.Append("a") },
		func(s store) api.Errno { return s.Append("bc", "", "d") },
		func(s store) api.Errno { return s.Sync() },
	}
	for _, n := range []int{-1, 0, 1, 3} {
		l = append(l,
			func(s store) api.Errno { return s.Drop(n) },
			func(s store) api.Errno { return s.Cut(n) },
			func(s store) api.Errno { s.Fuse(n); return api.OK },
			func(s store) api.Errno { s.Crash(n); return api.OK },
		)
	}
	return l
}

// same makes a call at a disk and at its model, and tells whether both answer the same and are the same then.
func same(d *Disk, m *model, call func(s store) api.Errno) bool {
	return call(d) == call(m) && d.Bytes() == m.Bytes() && d.Safe() == m.Safe() && d.Size() == m.Size() && d.Down() == m.Down()
}

// P4.1: in every order, of up to five calls, the disk does what its model does.
func TestEveryOrder(t *testing.T) {
	l := calls()
	all := 1
	for range 5 {
		all *= len(l)
	}
	for i := range all { // all lists of five: their beginnings are all shorter ones
		d, m := fresh(t, 5), &model{size: 5}
		for j, rest := 0, i; j < 5; j, rest = j+1, rest/len(l) {
			if !same(d, m, l[rest%len(l)]) {
				t.Fatalf("the list %d, the call %d of it (%d): the disk is %+v, the model %+v", i, j, rest%len(l), *d, *m)
			}
		}
	}
}

// P4.1: in long orders, over disks of many sizes.
func TestLongOrders(t *testing.T) {
	r := chance()
	for range 2000 {
		size := r.IntN(200)
		d, m := fresh(t, size), &model{size: size}
		for range 100 {
			n := r.IntN(len(m.Bytes())+4) - 2
			call := []func(s store) api.Errno{
				func(s store) api.Errno { return s.Append(strings.Repeat("abc", n%7+7), strings.Repeat("x", n/9+1)) },
				func(s store) api.Errno { return s.Append(strings.Repeat("de", max(0, n/3))) },
				func(s store) api.Errno { return s.Sync() },
				func(s store) api.Errno { return s.Drop(n) },
				func(s store) api.Errno { return s.Cut(n) },
				func(s store) api.Errno { s.Fuse(n); return api.OK },
				func(s store) api.Errno { s.Crash(n / 2); return api.OK },
			}[r.IntN(7)]
			if !same(d, m, call) {
				t.Fatalf("the disk is %+v, the model %+v", *d, *m)
			}
		}
	}
}

// P4.2: whatever call is broken off at whatever byte, and whatever a crash keeps: what was safe is there, or gone by a Drop whole, and behind it a beginning of what wasn't.
func TestBrokenOff(t *testing.T) {
	put := []string{"wx", "", "yz"}
	for fuse := -1; fuse < 7; fuse++ {
		for keep := -1; keep < 9; keep++ {
			d := with(t, "abc", "de", fuse)
			d.Append(put...)
			checkBehindCrash(t, d, keep, "abc", "dewxyz")

			d = with(t, "abc", "de", fuse)
			d.Append(put...)
			if d.Sync() == api.OK {
				checkBehindCrash(t, d, keep, "abcdewxyz", "")
			} else {
				checkBehindCrash(t, d, keep, "abc", "dewxyz")
			}

			d = with(t, "abc", "de", fuse)
			if d.Drop(2) == api.OK {
				checkBehindCrash(t, d, keep, "c", "de")
			} else {
				checkBehindCrash(t, d, keep, "abc", "de")
			}
		}
	}
}

// checkBehindCrash makes a crash, and tells whether all that was safe is there, and a beginning of the rest, safe now.
func checkBehindCrash(t *testing.T, d *Disk, keep int, safe, rest string) {
	t.Helper()
	had := d.Bytes()
	d.Crash(keep)
	s := d.Bytes()
	if !strings.HasPrefix(s, safe) || !strings.HasPrefix(safe+rest, s) || !strings.HasPrefix(had, s) || d.Safe() != len(s) {
		t.Errorf("Crash(%d) of %q, safe %q: %q, %d safe", keep, had, safe, s, d.Safe())
	}
	d.Crash(0)
	if d.Bytes() != s {
		t.Errorf("%q was kept, and is %q behind another crash", s, d.Bytes())
	}
}

// P4.2: over whole lives of a disk: what a Sync or a crash made safe is there behind each crash, as long as nobody drops or cuts it.
func TestSafeBytesLast(t *testing.T) {
	r := chance()
	d := fresh(t, 4000)
	safe, loose := "", "" // what must last, and what was handed in since
	for i := range 50000 {
		switch r.IntN(12) {
		case 0, 1, 2, 3, 4, 5:
			s := strings.Repeat(string(rune('a'+i%26)), r.IntN(9))
			if d.Append(s[:len(s)/2], s[len(s)/2:]) != api.ErrFull {
				loose += s
			}
		case 6, 7:
			if d.Sync() == api.OK {
				safe, loose = safe+loose, ""
			}
		case 8:
			if n := r.IntN(len(safe) + 1); d.Drop(n) == api.OK {
				safe = safe[n:]
			}
		case 9:
			if n := len(safe) + len(loose) - r.IntN(9); d.Cut(n) == api.OK {
				safe, loose = safe[:min(n, len(safe))], (safe + loose)[min(n, len(safe)):n]
			}
		case 10:
			d.Fuse(r.IntN(60))
		case 11:
			checkBehindCrash(t, d, r.IntN(20)-3, safe, loose)
			safe, loose = d.Bytes(), ""
		}
		if d.Down() { // of what was handed in last only a beginning was put: it is known behind the crash
			checkBehindCrash(t, d, r.IntN(20)-3, safe, loose)
			safe, loose = d.Bytes(), ""
		}
	}
}

// within tells whether a text lies in another one's memory.
func within(part, whole string) bool {
	if part == "" || whole == "" {
		return false
	}
	at, from := uintptr(unsafe.Pointer(unsafe.StringData(part))), uintptr(unsafe.Pointer(unsafe.StringData(whole)))
	return at >= from && at < from+uintptr(len(whole))
}

// Rule 2: what is told stays as it was, shares no memory with what was handed in, and lists stay as they were.
func TestNothingIsShared(t *testing.T) {
	l := []string{"abcd", "", "efgh"}
	d := fresh(t, 10)
	d.Append(l...)
	if !slices.Equal(l, []string{"abcd", "", "efgh"}) {
		t.Errorf("the list is now %q", l)
	}
	told := d.Bytes()
	d.Sync()
	d.Cut(2)
	d.Append("XXXXXXXX")
	d.Crash(0)
	d.Append("YYYY")
	d.Sync()
	d.Drop(1)
	d.Append("ZZZ")
	if told != "abcdefgh" {
		t.Errorf("what was told is now %q", told)
	}
	checkHas(t, d, "bYYYYZZZ", 5, false)
	one := fresh(t, 10)
	s := strings.Repeat("s", 10)
	one.Append(s)
	if within(one.Bytes(), s) || within(one.Bytes(), one.Bytes()) {
		t.Error("Bytes answers a part of what was handed in, or of what is kept")
	}
}
