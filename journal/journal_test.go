package journal

import (
	"encoding/binary"
	"hash/crc32"
	"math"
	"math/rand/v2"
	"slices"
	"strings"
	"testing"

	"remuda/api"
	"remuda/disk"
)

func chance() *rand.Rand { return rand.New(rand.NewPCG(1, 2)) }

// framed is the frames of records, made by other means than the program's.
func framed(l ...string) string {
	var b []byte
	for _, r := range l {
		f := append(binary.BigEndian.AppendUint16(nil, uint16(len(r))), r...)
		b = append(b, binary.LittleEndian.AppendUint32(f, crc32.ChecksumIEEE(f))...)
	}
	return string(b)
}

// fresh is an empty disk of a size.
func fresh(t *testing.T, size int) *disk.Disk {
	t.Helper()
	d, e := disk.New(size)
	if e != api.OK {
		t.Fatalf("a disk of %d bytes: %d", size, e)
	}
	return d
}

// holding is a disk of a size that has these bytes, safe ones and others behind them.
func holding(t *testing.T, size int, safe, loose string) *disk.Disk {
	t.Helper()
	d := fresh(t, size)
	checkError(t, "Append to the disk of what is to be safe", d.Append(safe), api.OK)
	checkError(t, "Sync of the disk", d.Sync(), api.OK)
	checkError(t, "Append to the disk of the rest", d.Append(loose), api.OK)
	return d
}

// opened is the journal of a disk, which tells these records.
func opened(t *testing.T, d *disk.Disk, want ...string) *Journal {
	t.Helper()
	j, l, e := Open(d)
	if j == nil || e != api.OK {
		t.Fatalf("Open: %v, %d", j, e)
	}
	if !slices.Equal(l, want) {
		t.Fatalf("Open tells %.80q, want %.80q", l, want)
	}
	return j
}

// with is a journal on a disk of a hundred bytes, with the records ab and c, which were forced, and d, which wasn't: 8, 7 and 7 bytes.
func with(t *testing.T) (*Journal, *disk.Disk) {
	t.Helper()
	d := holding(t, 100, framed("ab", "c"), framed("d"))
	return opened(t, d, "ab", "c", "d"), d
}

func checkError(t *testing.T, what string, got, want api.Errno) {
	t.Helper()
	if got != want {
		t.Errorf("%s: %d, want %d", what, got, want)
	}
}

// checkHas tells whether a journal isn't over, and its disk has the frames of these records and nothing else, so many bytes of it safe.
func checkHas(t *testing.T, j *Journal, d *disk.Disk, safe int, l ...string) {
	t.Helper()
	want := framed(l...)
	if d.Bytes() != want || d.Safe() != safe {
		t.Errorf("the disk has %.80q, %d safe; want %.80q, %d", d.Bytes(), d.Safe(), want, safe)
	}
	if j.Len() != len(want) || j.Over() {
		t.Errorf("Len %d, Over %t; want %d, false", j.Len(), j.Over(), len(want))
	}
}

// checkOver tells whether a journal is over: it answers ErrDown to all that there is, also to what isn't right, and leaves its disk as it is.
func checkOver(t *testing.T, j *Journal, d *disk.Disk) {
	t.Helper()
	bytes, safe, down := d.Bytes(), d.Safe(), d.Down()
	for range 2 {
		if j.Len() != 0 || !j.Over() { // asked first: a call might make it so
			t.Errorf("Len %d, Over %t of a journal that is over", j.Len(), j.Over())
		}
		for _, l := range [][]string{nil, {}, {""}, {"x", "y"}, {long(4096)}, {long(4097)}, {"x", long(5000)}, {long(4096), long(4096)}} {
			checkError(t, "Append to a journal that is over", j.Append(false, l...), api.ErrDown)
			checkError(t, "Append, forced, to a journal that is over", j.Append(true, l...), api.ErrDown)
			checkError(t, "Renew of a journal that is over", j.Renew(l...), api.ErrDown)
		}
		for _, n := range []int{math.MinInt, -1, 0, 1, 2, 99, math.MaxInt} {
			checkError(t, "Back of a journal that is over", j.Back(n), api.ErrDown)
		}
	}
	if d.Bytes() != bytes || d.Safe() != safe || d.Down() != down {
		t.Errorf("the disk of a journal that is over has %q, %d safe, down %t; it had %q, %d, %t", d.Bytes(), d.Safe(), d.Down(), bytes, safe, down)
	}
}

// goDown lets a disk go down, by nothing that its journal sees.
func goDown(t *testing.T, d *disk.Disk) {
	t.Helper()
	d.Fuse(0)
	checkError(t, "Sync of a disk whose fuse is spent", d.Sync(), api.ErrDown)
}

func long(n int) string { return strings.Repeat("x", n) }

// P5.1: the chapter's example.
func TestExample(t *testing.T) {
	d := fresh(t, 100)
	j := opened(t, d)
	checkError(t, "Append, forced", j.Append(true, "a"), api.OK)
	checkError(t, "Append", j.Append(false, "b"), api.OK)
	checkHas(t, j, d, 7, "a", "b")
	d.Crash(3)
	checkHas(t, opened(t, d, "a"), d, 7, "a")
}

// P5.1: of a nil disk and of one that is down there is no journal; what stands on it stays.
func TestOpenOfADiskThatIsDown(t *testing.T) {
	for _, loose := range []string{"", framed("d"), framed("d")[:4], "no frame"} {
		for _, safe := range []string{"", framed("ab", "c")} {
			d := holding(t, 100, safe, loose)
			goDown(t, d)
			for _, d := range []*disk.Disk{d, nil} {
				if j, l, e := Open(d); j != nil || len(l) != 0 || e != api.ErrDown {
					t.Errorf("Open of a disk that is down: %v, %q, %d", j, l, e)
				}
			}
			if d.Bytes() != safe+loose || d.Safe() != len(safe) || !d.Down() {
				t.Errorf("the disk has %q, %d safe, down %t", d.Bytes(), d.Safe(), d.Down())
			}
		}
	}
}

// P5.1: an empty disk has no records, whatever its size.
func TestOpenOfAnEmptyDisk(t *testing.T) {
	for _, size := range []int{0, 1, 5, 6, 7, 100, api.MaxDisk} {
		d := fresh(t, size)
		j := opened(t, d)
		checkHas(t, j, d, 0)
		want := api.OK
		if size < 6 {
			want = api.ErrFull
		}
		checkError(t, "Append of an empty record", j.Append(false, ""), want)
	}
}

// P5.1: the records are those of all frames, safe or not, in the order in which they stand.
func TestOpenOfWholeFrames(t *testing.T) {
	l := []string{"b", "a", "", "a", "", "", long(4096), framed("inner"), "\x00\x00\xff", long(4095)}
	for i := range l {
		for k := i; k <= len(l); k++ {
			for _, safe := range []int{0, 1, len(framed(l[i:k]...)) / 2, len(framed(l[i:k]...))} {
				s := framed(l[i:k]...)
				safe = min(safe, len(s))
				d := holding(t, api.MaxDisk, s[:safe], s[safe:])
				for range 2 {
					checkHas(t, opened(t, d, l[i:k]...), d, safe, l[i:k]...)
				}
			}
		}
	}
}

// P5.1: what stands behind the whole frames is cut off, safe or not; that spends nothing of a fuse. What is put then stands behind the records.
func TestOpenCutsOff(t *testing.T) {
	spoilt := []byte(framed("spoilt"))
	spoilt[3] ^= 1
	rests := []string{"\x00", "\xff\xff\xff\xff\xff\xff", "no frame", string(spoilt), string(spoilt) + framed("e", "f"), "\x00" + framed("e"), "\x10\x01" + long(4200)}
	for i := range len(framed("cut")) {
		rests = append(rests, framed("cut")[:i])
	}
	for _, l := range [][]string{nil, {""}, {"ab", "", "c"}, {long(4096)}} {
		whole := framed(l...)
		for _, rest := range rests {
			for _, safe := range []int{0, len(whole) / 2, len(whole), len(whole) + len(rest)/2, len(whole + rest)} {
				d := holding(t, 20000, (whole + rest)[:safe], (whole + rest)[safe:])
				d.Fuse(0)
				j := opened(t, d, l...)
				checkHas(t, j, d, min(safe, len(whole)), l...)
				if d.Down() {
					t.Error("Open spends of the fuse")
				}
				d.Fuse(-1)
				checkError(t, "Append", j.Append(true, "behind"), api.OK)
				d.Crash(0)
				opened(t, d, append(slices.Clone(l), "behind")...)
			}
		}
	}
}

// P5.1: no records, empty ones, and several, forced or not.
func TestAppend(t *testing.T) {
	for _, l := range [][]string{nil, {}, {""}, {"", "", ""}, {"e"}, {"ef", "", "\x00\xff\n", "e"}, {framed("e")}, {"ä", "\xc3"}} {
		given := slices.Clone(l)
		want := append([]string{"ab", "c", "d"}, l...)

		j, d := with(t)
		checkError(t, "Append", j.Append(false, l...), api.OK)
		checkHas(t, j, d, 15, want...)
		opened(t, d, want...)

		j, d = with(t)
		checkError(t, "Append, forced", j.Append(true, l...), api.OK)
		checkHas(t, j, d, len(framed(want...)), want...)
		d.Crash(0)
		opened(t, d, want...)

		if !slices.Equal(l, given) {
			t.Errorf("the list that was handed in is now %q", l)
		}
	}
}

// P5.1: without records nothing is put, and only if that is forced there is a Sync, which spends of a fuse.
func TestAppendOfNoRecords(t *testing.T) {
	j, d := with(t)
	d.Fuse(0)
	for _, l := range [][]string{nil, {}} {
		checkError(t, "Append of no records", j.Append(false, l...), api.OK)
		checkHas(t, j, d, 15, "ab", "c", "d")
	}
	d.Fuse(1)
	checkError(t, "Append of no records, forced", j.Append(true), api.OK)
	checkHas(t, j, d, 22, "ab", "c", "d")
	checkError(t, "Append of no records, forced, the fuse spent", j.Append(true), api.ErrDown)
	checkOver(t, j, d)
}

// P5.1: without records, and not forced, an Append asks nothing of the disk: also of one that is down it is OK, and the journal goes on; the Sync of a forced one meets it.
func TestAppendOfNoRecordsToADiskThatIsDown(t *testing.T) {
	for _, l := range [][]string{nil, {}} {
		for _, size := range []int{22, 100} { // full, and not
			for _, call := range []func(j *Journal) api.Errno{
				func(j *Journal) api.Errno { return j.Append(true, l...) },
				func(j *Journal) api.Errno { return j.Renew(l...) },
				func(j *Journal) api.Errno { return j.Back(3) },
			} {
				d := holding(t, size, framed("ab", "c"), framed("d"))
				j := opened(t, d, "ab", "c", "d")
				goDown(t, d)
				for range 2 {
					checkError(t, "Append of no records, the disk down", j.Append(false, l...), api.OK)
					checkHas(t, j, d, 15, "ab", "c", "d")
				}
				checkError(t, "what asks the disk", call(j), api.ErrDown)
				checkOver(t, j, d)
			}
		}
	}
	j, d := with(t)
	goDown(t, d)
	checkError(t, "Append of no records, the disk down", j.Append(false), api.OK)
	d.Crash(0) // the journal never met it down, and goes on behind the crash
	checkError(t, "Append behind the crash", j.Append(true, "e"), api.OK)
	checkHas(t, j, d, 22, "ab", "c", "e")
}

// P5.1: a record of MaxFrame bytes is put; of one more nothing is, nor of those that stand with it, and there is no Sync.
func TestAppendOfTheLongestRecord(t *testing.T) {
	for _, force := range []bool{false, true} {
		for _, n := range []int{4095, 4096} {
			d := holding(t, 20000, framed("ab"), framed("c"))
			j := opened(t, d, "ab", "c")
			checkError(t, "Append of a long record", j.Append(force, "d", long(n), "e"), api.OK)
			safe := len(framed("ab"))
			if force {
				safe = j.Len()
			}
			checkHas(t, j, d, safe, "ab", "c", "d", long(n), "e")
		}
		for _, n := range []int{4097, 4098, 65535, 65536, 65537, 1 << 21} {
			for at := range 3 {
				l := []string{"d", "", "e"}
				l[at] = long(n)
				d := holding(t, 20000, framed("ab"), framed("c"))
				j := opened(t, d, "ab", "c")
				checkError(t, "Append of one that is too long", j.Append(force, l...), api.ErrLong)
				checkHas(t, j, d, 8, "ab", "c")
				checkError(t, "Renew of one that is too long", j.Renew(l...), api.ErrLong)
				checkHas(t, j, d, 8, "ab", "c")
			}
		}
	}
}

// P5.1: what just fits is put; of what has one byte more nothing is, not even the records that would fit, and there is no Sync.
func TestAppendOfWhatFits(t *testing.T) {
	lists := [][]string{{"0123456789"}, {"01", "23"}, {"", "0123"}, {"0123", ""}}
	for _, force := range []bool{false, true} {
		for _, l := range lists {
			room := len(framed(l...))
			for more := range 3 {
				d := holding(t, 22+room+more, framed("ab", "c"), framed("d"))
				j := opened(t, d, "ab", "c", "d")
				over := slices.Clone(l)
				over[0] += long(more + 1)
				checkError(t, "Append of what is too much by one", j.Append(force, over...), api.ErrFull)
				checkHas(t, j, d, 15, "ab", "c", "d")
				checkError(t, "Append of many more", j.Append(force, slices.Repeat(l, 50)...), api.ErrFull)
				checkHas(t, j, d, 15, "ab", "c", "d")
				fits := slices.Clone(l)
				fits[0] += long(more)
				checkError(t, "Append of what just fits", j.Append(force, fits...), api.OK)
				want := append([]string{"ab", "c", "d"}, fits...)
				safe := 15
				if force {
					safe = j.Len()
				}
				checkHas(t, j, d, safe, want...)
				checkError(t, "Append of an empty record to a full disk", j.Append(force, ""), api.ErrFull)
				checkError(t, "Append of no record to a full disk", j.Append(force), api.OK)
				checkHas(t, j, d, safe, want...)
			}
		}
	}
}

// P5.1: that there is no room is found out without going through all records that won't be put.
func TestAppendOfFarTooMuch(t *testing.T) {
	l := slices.Repeat([]string{long(4096)}, 1<<19-1<<10)
	d := fresh(t, api.MaxDisk)
	j := opened(t, d)
	checkError(t, "Append of far too much", j.Append(true, l...), api.ErrFull)
	checkHas(t, j, d, 0)
	checkError(t, "Renew of far too much", j.Renew(l...), api.ErrFull)
	checkHas(t, j, d, 0)
	checkError(t, "Append of far too much, and a record too long behind it", j.Append(true, append(l, long(4097))...), api.ErrLong)
}

// P5.1: what the disk has room for is put, whatever fuse there is, up to where that is spent, within a frame or between two; at the Sync all are put.
func TestAppendWithAFuse(t *testing.T) {
	l := []string{"e", "", "fgh"} // 7, 6 and 9 bytes
	put := framed(l...)
	for _, force := range []bool{false, true} {
		need := len(put)
		if force {
			need++
		}
		for fuse := range need + 3 {
			j, d := with(t)
			d.Fuse(fuse)
			if fuse >= need {
				checkError(t, "Append of no more than the fuse", j.Append(force, l...), api.OK)
				safe := 15
				if force {
					safe = j.Len()
				}
				checkHas(t, j, d, safe, "ab", "c", "d", "e", "", "fgh")
				continue
			}
			checkError(t, "Append of more than the fuse", j.Append(force, l...), api.ErrDown)
			want := framed("ab", "c", "d") + put[:min(fuse, len(put))]
			if d.Bytes() != want || d.Safe() != 15 || !d.Down() {
				t.Errorf("fuse %d: the disk has %q, %d safe, down %t", fuse, d.Bytes(), d.Safe(), d.Down())
			}
			checkOver(t, j, d)
			d.Crash(99)
			checkOver(t, j, d)
			whole := 0
			for whole < len(l) && len(framed(l[:whole+1]...)) <= fuse {
				whole++
			}
			opened(t, d, append([]string{"ab", "c", "d"}, l[:whole]...)...)
		}
	}
}

// P5.1: an Append is one Append of the disk: of records that don't fit nothing is spent, also if the fuse is too short for them.
func TestFullAheadOfTheFuse(t *testing.T) {
	for fuse := range 20 {
		d := holding(t, 40, framed("ab", "c"), framed("d"))
		j := opened(t, d, "ab", "c", "d")
		d.Fuse(fuse)
		checkError(t, "Append of too much", j.Append(true, "e", "f", "g"), api.ErrFull)
		checkError(t, "Renew of too much", j.Renew("e", "f", "g"), api.ErrFull)
		checkError(t, "Append of one too long", j.Append(true, "e", long(4097)), api.ErrLong)
		checkHas(t, j, d, 15, "ab", "c", "d")
		if d.Down() {
			t.Errorf("fuse %d: down", fuse)
		}
		if d.Append(long(fuse)); fuse < 18 && (d.Down() || d.Append("x") != api.ErrDown) {
			t.Errorf("fuse %d: what was refused spends of it", fuse)
		}
	}
}

// P5.1: a journal begins anew with no records, with some, again and again; all are safe.
func TestRenew(t *testing.T) {
	lists := [][]string{nil, {}, {""}, {"e"}, {"", "", ""}, {"ef", "", "g"}, {"ab", "c", "d"}, {"0123456789", "0123456789"}}
	for _, l := range lists {
		for _, next := range lists {
			given := slices.Clone(l)
			j, d := with(t)
			for _, l := range [][]string{l, next, l} {
				checkError(t, "Renew", j.Renew(l...), api.OK)
				checkHas(t, j, d, len(framed(l...)), l...)
			}
			checkError(t, "Append", j.Append(false, "behind"), api.OK)
			want := append(slices.Clone(l), "behind")
			checkHas(t, j, d, len(framed(l...)), want...)
			opened(t, d, want...)
			d.Crash(0)
			opened(t, d, l...)
			if !slices.Equal(l, given) {
				t.Errorf("the list that was handed in is now %q", l)
			}
		}
	}
	d := fresh(t, 100)
	j := opened(t, d)
	for _, l := range lists {
		checkError(t, "Renew of an empty journal", j.Renew(), api.OK)
		checkHas(t, j, d, 0)
		checkError(t, "Renew of an empty journal", j.Renew(l...), api.OK)
		checkHas(t, j, d, len(framed(l...)), l...)
	}
}

// P5.1: a Renew needs room for the elder records and the new ones together.
func TestRenewOfWhatFits(t *testing.T) {
	for _, room := range []int{16, 17, 20} {
		d := holding(t, 22+room, framed("ab", "c"), framed("d"))
		j := opened(t, d, "ab", "c", "d")
		checkError(t, "Renew of what is too much by one", j.Renew("ef", long(room-13)), api.ErrFull)
		checkHas(t, j, d, 15, "ab", "c", "d")
		checkError(t, "Renew of what just fits", j.Renew("ef", long(room-14)), api.OK)
		checkHas(t, j, d, room, "ef", long(room-14))
		checkError(t, "Renew of one byte more than the elder ones had, which are gone", j.Renew("ab", "c", "de"), api.ErrFull)
		checkError(t, "Renew of as much as the elder ones had, which are gone", j.Renew("ab", "c", "d"), api.OK)
		checkHas(t, j, d, 22, "ab", "c", "d")
	}
	d := holding(t, 22, framed("ab", "c"), framed("d"))
	j := opened(t, d, "ab", "c", "d")
	checkError(t, "Renew on a full disk", j.Renew(""), api.ErrFull)
	checkHas(t, j, d, 15, "ab", "c", "d")
	checkError(t, "Renew of none on a full disk", j.Renew(), api.OK)
	checkHas(t, j, d, 0)
}

// P5.1: a Renew puts, syncs and drops, in this order: broken off at each byte, at the Sync and at the Drop.
func TestRenewWithAFuse(t *testing.T) {
	for _, l := range [][]string{nil, {""}, {"e", "", "fgh"}} {
		put := framed(l...)
		for fuse := range len(put) + 5 {
			j, d := with(t)
			d.Fuse(fuse)
			if fuse >= len(put)+2 {
				checkError(t, "Renew of no more than the fuse", j.Renew(l...), api.OK)
				checkHas(t, j, d, len(put), l...)
				continue
			}
			checkError(t, "Renew of more than the fuse", j.Renew(l...), api.ErrDown)
			want, safe := framed("ab", "c", "d")+put[:min(fuse, len(put))], 15
			if fuse == len(put)+1 {
				safe = len(want)
			}
			if d.Bytes() != want || d.Safe() != safe || !d.Down() {
				t.Errorf("fuse %d: the disk has %q, %d safe, down %t", fuse, d.Bytes(), d.Safe(), d.Down())
			}
			checkOver(t, j, d)
			d.Crash(99)
			checkOver(t, j, d)
		}
	}
}

// P5.1: all but the first records are cut off, safe or not; that spends nothing of a fuse.
func TestBack(t *testing.T) {
	l := []string{"ab", "c", "d"}
	for n := range 4 {
		j, d := with(t)
		d.Fuse(0)
		for _, bad := range []int{math.MinInt, -1, 4, 5, 22, math.MaxInt} {
			checkError(t, "Back to what isn't there", j.Back(bad), api.ErrArg)
			checkHas(t, j, d, 15, l...)
		}
		for range 2 {
			checkError(t, "Back", j.Back(n), api.OK)
			checkHas(t, j, d, min(15, len(framed(l[:n]...))), l[:n]...)
			checkError(t, "Back to one more", j.Back(n+1), api.ErrArg)
		}
		d.Fuse(-1)
		checkError(t, "Append", j.Append(false, "e"), api.OK)
		checkHas(t, j, d, min(15, len(framed(l[:n]...))), append(slices.Clone(l[:n]), "e")...)
		checkError(t, "Back to all", j.Back(n+1), api.OK)
		opened(t, d, append(slices.Clone(l[:n]), "e")...)
	}
	j := opened(t, fresh(t, 5))
	checkError(t, "Back of an empty journal", j.Back(0), api.OK)
	checkError(t, "Back of an empty journal to one", j.Back(1), api.ErrArg)
	checkError(t, "Back of an empty journal to below 0", j.Back(-1), api.ErrArg)
}

// P5.1: records of all lengths, also empty ones and those that look like frames, are counted as records.
func TestBackAmongRecordsOfAnyLength(t *testing.T) {
	l := []string{"", long(4096), "", "", framed("in", "ner"), long(255), long(256), "\x00"}
	for n := range len(l) + 1 {
		d := holding(t, 20000, framed(l...), "")
		j := opened(t, d, l...)
		checkError(t, "Back", j.Back(n), api.OK)
		checkHas(t, j, d, len(framed(l[:n]...)), l[:n]...)
	}
}

// P5.1: what an Append that failed would have put is none of the records, and those ahead of a Renew aren't either.
func TestBackBehindOtherCalls(t *testing.T) {
	for n := range 5 {
		j, d := with(t)
		checkError(t, "Append of one too long", j.Append(true, "e", long(4097)), api.ErrLong)
		checkError(t, "Append of what doesn't fit", j.Append(true, "e", long(90)), api.ErrFull)
		if n > 3 {
			checkError(t, "Back to more than all", j.Back(n), api.ErrArg)
			continue
		}
		checkError(t, "Back", j.Back(n), api.OK)
		l := []string{"ab", "c", "d"}[:n]
		checkHas(t, j, d, min(15, len(framed(l...))), l...)
	}
	for n := range 4 {
		j, d := with(t)
		checkError(t, "Renew", j.Renew("new", "er"), api.OK)
		if n > 2 {
			checkError(t, "Back to more than all", j.Back(n), api.ErrArg)
			checkHas(t, j, d, 17, "new", "er")
			continue
		}
		checkError(t, "Back", j.Back(n), api.OK)
		l := []string{"new", "er"}[:n]
		checkHas(t, j, d, len(framed(l...)), l...)
		checkError(t, "Append", j.Append(true, "e"), api.OK)
		checkHas(t, j, d, j.Len(), append(slices.Clone(l), "e")...)
	}
}

// P5.1: of a disk that is down, which the journal hasn't met yet, all other errors are asked first, and leave it as it is; then it is over, and stays so.
func TestOrderOfErrors(t *testing.T) {
	calls := []func(j *Journal) api.Errno{
		func(j *Journal) api.Errno { return j.Append(false, "e") },
		func(j *Journal) api.Errno { return j.Append(true, "e") },
		func(j *Journal) api.Errno { return j.Append(false, "") },
		func(j *Journal) api.Errno { return j.Append(true) },
		func(j *Journal) api.Errno { return j.Append(true, long(72)) }, // just fits
		func(j *Journal) api.Errno { return j.Renew() },
		func(j *Journal) api.Errno { return j.Renew("e") },
		func(j *Journal) api.Errno { return j.Renew(long(72)) },
		func(j *Journal) api.Errno { return j.Back(0) },
		func(j *Journal) api.Errno { return j.Back(3) },
	}
	for i, call := range calls {
		j, d := with(t)
		goDown(t, d)
		for _, force := range []bool{false, true} {
			checkError(t, "Append of too long and too many", j.Append(force, long(4096), long(4097)), api.ErrLong)
			checkError(t, "Append of too long", j.Append(force, long(4097)), api.ErrLong)
			checkError(t, "Append of too many", j.Append(force, "e", long(66)), api.ErrFull)
			checkError(t, "Append of one too many", j.Append(force, long(73)), api.ErrFull)
		}
		checkError(t, "Renew of too long", j.Renew("e", long(4097)), api.ErrLong)
		checkError(t, "Renew of too many", j.Renew("e", long(66)), api.ErrFull)
		checkError(t, "Back to below 0", j.Back(-1), api.ErrArg)
		checkError(t, "Back to above all", j.Back(4), api.ErrArg)
		checkHas(t, j, d, 15, "ab", "c", "d")
		if e := call(j); e != api.ErrDown {
			t.Errorf("the call %d, with the disk down: %d", i, e)
		}
		if d.Bytes() != framed("ab", "c", "d") || d.Safe() != 15 {
			t.Errorf("the call %d: the disk has %q, %d safe", i, d.Bytes(), d.Safe())
		}
		checkOver(t, j, d)
	}
}

// P5.1: a journal that is over stays so behind a crash; the disk has a new journal then.
func TestOverIsForever(t *testing.T) {
	for keep := range 9 {
		j, d := with(t)
		d.Fuse(3)
		checkError(t, "Append of more than the fuse", j.Append(true, "e"), api.ErrDown)
		checkOver(t, j, d)
		d.Crash(keep)
		checkOver(t, j, d)
		l := []string{"ab", "c"}
		if keep >= 7 {
			l = append(l, "d")
		}
		next := opened(t, d, l...)
		checkHas(t, next, d, len(framed(l...)), l...)
		checkError(t, "Append to the next journal", next.Append(true, "f"), api.OK)
		checkOver(t, j, d)
		checkHas(t, next, d, len(framed(l...))+7, append(l, "f")...)
	}
}

// P5.1: journals on two disks have nothing to do with one another.
func TestTwoDisks(t *testing.T) {
	j, d := with(t)
	other := fresh(t, 50)
	k := opened(t, other)
	checkError(t, "Append", k.Append(true, "x", "y"), api.OK)
	checkHas(t, j, d, 15, "ab", "c", "d")
	checkError(t, "Renew", j.Renew("e"), api.OK)
	checkError(t, "Append", k.Append(false, "z"), api.OK)
	checkHas(t, k, other, 14, "x", "y", "z")
	d.Fuse(0)
	checkError(t, "Append, the fuse spent", j.Append(true, "f"), api.ErrDown)
	checkOver(t, j, d)
	checkError(t, "Back", k.Back(1), api.OK)
	checkHas(t, k, other, 7, "x")
	d.Crash(0)
	checkHas(t, opened(t, d, "e"), d, 7, "e")
}

// P5.1: of two journals on one disk each goes by what the disk has.
func TestTwoJournalsOnOneDisk(t *testing.T) {
	j, d := with(t)
	k := opened(t, d, "ab", "c", "d")
	checkError(t, "Append to the second", k.Append(true, "e"), api.OK)
	checkHas(t, j, d, 29, "ab", "c", "d", "e")
	checkError(t, "Append to the first", j.Append(false, "f"), api.OK)
	checkHas(t, k, d, 29, "ab", "c", "d", "e", "f")
	checkError(t, "Back of the first", j.Back(4), api.OK)
	checkError(t, "Back of the second to more", k.Back(5), api.ErrArg)
	checkError(t, "Renew of the second", k.Renew("new"), api.OK)
	checkHas(t, j, d, 9, "new")
	d.Fuse(0)
	checkError(t, "Append to the first, the fuse spent", j.Append(true, "g"), api.ErrDown)
	checkOver(t, j, d)
	checkHas(t, k, d, 9, "new")
	checkError(t, "Append to the second, the disk down", k.Append(true, "g"), api.ErrDown)
	checkOver(t, k, d)
}

// P5.1: a nil journal, and one that nobody opened, are over.
func TestNilJournal(t *testing.T) {
	checkOver(t, nil, nil)
	checkOver(t, nil, fresh(t, 100))
	checkOver(t, new(Journal), nil)
}

// P5.1: the greatest disk takes all records that it has room for, one by one, and they are told again.
func TestTheGreatestDisk(t *testing.T) {
	d := fresh(t, api.MaxDisk)
	j := opened(t, d)
	n := api.MaxDisk / 7
	for i := range n {
		if e := j.Append(i%2 == 0, string([]byte{byte(i)})); e != api.OK {
			t.Fatalf("Append of the record %d: %d", i, e)
		}
	}
	checkError(t, "Append of one more", j.Append(true, "x"), api.ErrFull)
	if j.Len() != 7*n {
		t.Errorf("Len %d", j.Len())
	}
	_, l, e := Open(d)
	if e != api.OK || len(l) != n {
		t.Fatalf("%d records, %d", len(l), e)
	}
	for i, r := range l {
		if r != string([]byte{byte(i)}) {
			t.Fatalf("the record %d is %q", i, r)
		}
	}
	checkError(t, "Back", j.Back(n/3), api.OK)
	checkHas(t, j, d, 7*(n/3), l[:n/3]...)
	checkError(t, "Renew", j.Renew(l[n/3-1:]...), api.ErrFull)
	checkError(t, "Renew", j.Renew(l[:n/3]...), api.OK)
	checkHas(t, j, d, 7*(n/3), l[:n/3]...)
}

// Rule 2: what is answered shares nothing with what is kept.
func TestNothingIsShared(t *testing.T) {
	j, d := with(t)
	_, l, _ := Open(d)
	clear(l)
	opened(t, d, "ab", "c", "d")
	list := make([]string, 2, 9)
	copy(list, []string{"e", "f"})
	checkError(t, "Append", j.Append(true, list...), api.OK)
	checkError(t, "Renew", j.Renew(list...), api.OK)
	clear(list[:9])
	checkHas(t, j, d, 14, "e", "f")
}
