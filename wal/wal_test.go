package wal

import (
	"bytes"
	"hash/crc32"
	"math/rand"
	"slices"
	"strings"
	"testing"

	"matricula/api"
	"matricula/disk"
)

const size = 32

var castagnoli = crc32.MakeTable(crc32.Castagnoli)

func sum(b []byte) []byte { return highFirst(crc32.Checksum(b, castagnoli)) }

func highFirst(n uint32) []byte { return []byte{byte(n >> 24), byte(n >> 16), byte(n >> 8), byte(n)} }

// headOf is the document's word for word.
func headOf(gen, area, used int) []byte {
	word := highFirst(uint32(gen*16384 + area*8192 + used))
	return append(sum(word), word...)
}

// framed is chapter 9's, word for word.
func framed(l ...string) []byte {
	var out []byte
	for _, s := range l {
		length := []byte{byte(len(s) >> 8), byte(len(s))}
		out = slices.Concat(out, length, sum(append(slices.Clone(length), s...)), []byte(s))
	}
	return out
}

func texts(l ...string) [][]byte {
	var out [][]byte
	for _, s := range l {
		out = append(out, []byte(s))
	}
	return out
}

func long(n int) string { return strings.Repeat("l", n) }

// part is what stands on a disk from a block on.
type part struct {
	at int
	b  []byte
}

func diskWith(blocks int, parts ...part) *disk.Disk {
	b := make([]byte, blocks*size)
	for _, p := range parts {
		copy(b[p.at*size:], p.b)
	}
	return disk.Open(b)
}

func opened(t *testing.T, d *disk.Disk) *Log {
	t.Helper()
	l, e := Open(d)
	if e != api.OK || l == nil {
		t.Fatalf("Open = %v, %v", l, e)
	}
	return l
}

func appended(t *testing.T, l *Log, s string) {
	t.Helper()
	if e := l.Append([]byte(s)); e != api.OK {
		t.Fatalf("Append of %d bytes = %v", len(s), e)
	}
}

func replaced(t *testing.T, l *Log, all ...string) {
	t.Helper()
	if e := l.Replace(texts(all...)); e != api.OK {
		t.Fatalf("Replace of %d records = %v", len(all), e)
	}
}

func checkLog(t *testing.T, l *Log, gen, used, room int, records ...string) {
	t.Helper()
	if l.Gen() != gen || l.Used() != used || l.Room() != room {
		t.Fatalf("Gen %d, Used %d, Room %d, want %d, %d, %d", l.Gen(), l.Used(), l.Room(), gen, used, room)
	}
	if got := l.Records(); !slices.EqualFunc(got, texts(records...), bytes.Equal) {
		t.Fatalf("records are %.200q, want %.200q", got, records)
	}
}

func checkFound(t *testing.T, d *disk.Disk, gen, used, room int, records ...string) {
	t.Helper()
	checkLog(t, opened(t, d), gen, used, room, records...)
}

func checkRefused(t *testing.T, d *disk.Disk, want api.Errno) {
	t.Helper()
	if l, e := Open(d); l != nil || e != want {
		t.Fatalf("Open = %v, %v, want %v", l, e, want)
	}
}

func checkKept(t *testing.T, d *disk.Disk, want []byte) {
	t.Helper()
	if got := d.Bytes(); !bytes.Equal(got, want) {
		t.Fatalf("kept is %q, want %q", got, want)
	}
}

// P10.1

func TestOpenOfNewDisks(t *testing.T) {
	for n := range 4 {
		checkRefused(t, disk.New(n), api.ErrArg)
	}
	for _, x := range []struct{ blocks, room int }{{4, 32}, {5, 32}, {6, 64}, {7, 64}, {8, 96}, {511, 254 * 32}, {512, 255 * 32}} {
		checkFound(t, disk.New(x.blocks), 0, 0, x.room)
	}
}

func TestAShortDiskIsRefusedWhateverLiesOnIt(t *testing.T) {
	checkRefused(t, diskWith(3, part{0, headOf(2, 0, 0)}), api.ErrArg)
	checkRefused(t, diskWith(3, part{1, headOf(1, 0, 7)}, part{2, framed("a")}), api.ErrArg)
}

func TestOpenWithoutARightHead(t *testing.T) {
	records := part{2, framed("one", "two")}
	wrong := headOf(2, 0, 9)
	wrong[0]++
	turned := headOf(2, 0, 9)
	slices.Reverse(turned[:4])
	for i, p := range []part{
		{},
		{0, wrong},
		{0, turned},
		{0, bytes.Repeat([]byte{255}, 64)},
		{0, headOf(1, 0, 9)},
		{0, headOf(3, 0, 9)},
		{0, headOf(1<<18-1, 0, 9)},
		{1, headOf(0, 0, 9)},
		{1, headOf(2, 0, 9)},
		{1, headOf(1<<18-2, 0, 9)},
		{2, headOf(2, 0, 9)},
		{0, append([]byte{0}, headOf(2, 0, 9)...)},
		{0, headOf(2, 0, 9)[4:]},
		// More is used than an area has.
		{0, headOf(2, 0, 65)},
		{0, headOf(2, 1, 65)},
		{0, headOf(2, 0, 8191)},
		{1, headOf(1, 1, 8191)},
		{1, headOf(1, 0, 128)},
	} {
		l, e := Open(diskWith(6, records, p))
		if e != api.OK {
			t.Fatal(i, e)
		}
		checkLog(t, l, 0, 0, 64)
	}
}

func TestOpenWithARightHead(t *testing.T) {
	one, two, other := part{2, framed("one")}, part{2, framed("one", "2")}, part{4, framed("other")}
	full := framed(long(58))
	for i, x := range []struct {
		parts   []part
		gen     int
		used    int
		records []string
	}{
		{[]part{{0, headOf(0, 0, 0)}}, 0, 0, nil},
		{[]part{{0, headOf(0, 0, 9)}, one}, 0, 9, []string{"one"}},
		{[]part{{0, headOf(0, 1, 11)}, one, other}, 0, 11, []string{"other"}},
		{[]part{{1, headOf(1, 0, 0)}, one}, 1, 0, nil},
		{[]part{{1, headOf(1, 0, 9)}, one}, 1, 9, []string{"one"}},
		{[]part{{1, headOf(1, 0, 9)}, two}, 1, 9, []string{"one"}},
		{[]part{{1, headOf(1, 0, 16)}, two}, 1, 16, []string{"one", "2"}},
		{[]part{{1, headOf(1, 1, 11)}, one, other}, 1, 11, []string{"other"}},
		{[]part{{0, headOf(2, 0, 9)}, one}, 2, 9, []string{"one"}},
		{[]part{{0, headOf(2, 0, 64)}, {2, full}}, 2, 64, []string{long(58)}},
		{[]part{{0, headOf(2, 1, 64)}, {4, full}}, 2, 64, []string{long(58)}},
		{[]part{{0, headOf(1<<18-2, 1, 11)}, one, other}, 1<<18 - 2, 11, []string{"other"}},
		{[]part{{1, headOf(1<<18-1, 0, 9)}, one}, 1<<18 - 1, 9, []string{"one"}},
		// The rest of a head's block plays no part.
		{[]part{{0, append(headOf(2, 0, 9), bytes.Repeat([]byte{7}, 24)...)}, one}, 2, 9, []string{"one"}},
		// Of two the greater Gen counts, however far they are apart.
		{[]part{{0, headOf(2, 0, 9)}, {1, headOf(1, 0, 16)}, two}, 2, 9, []string{"one"}},
		{[]part{{0, headOf(2, 0, 9)}, {1, headOf(3, 0, 16)}, two}, 3, 16, []string{"one", "2"}},
		{[]part{{0, headOf(0, 0, 9)}, {1, headOf(1, 1, 11)}, one, other}, 1, 11, []string{"other"}},
		{[]part{{0, headOf(8, 0, 9)}, {1, headOf(3, 1, 11)}, one, other}, 8, 9, []string{"one"}},
		{[]part{{0, headOf(8, 0, 9)}, {1, headOf(201, 1, 11)}, one, other}, 201, 11, []string{"other"}},
		{[]part{{0, headOf(1<<18-2, 0, 9)}, {1, headOf(1<<18-1, 1, 11)}, one, other}, 1<<18 - 1, 11, []string{"other"}},
		{[]part{{0, headOf(1<<17, 0, 9)}, {1, headOf(1<<17-1, 1, 11)}, one, other}, 1 << 17, 9, []string{"one"}},
		// One that is not right does not count, whatever Gen it tells.
		{[]part{{0, headOf(2, 0, 9)}, {1, headOf(4, 1, 11)}, one, other}, 2, 9, []string{"one"}},
		{[]part{{0, headOf(2, 0, 9)}, {1, headOf(3, 1, 65)}, one, other}, 2, 9, []string{"one"}},
		{[]part{{0, headOf(4, 0, 65)}, {1, headOf(3, 1, 11)}, one, other}, 3, 11, []string{"other"}},
	} {
		l, e := Open(diskWith(6, x.parts...))
		if e != api.OK {
			t.Fatal(i, e)
		}
		checkLog(t, l, x.gen, x.used, 64-x.used, x.records...)
	}
}

func TestAreas(t *testing.T) {
	for _, blocks := range []int{4, 5, 6, 7, 40, 41, 300, 511, 512} {
		area := (blocks - 2) / 2
		record := long(min(area*size-6, 4000))
		for i := range 2 {
			d := diskWith(blocks, part{0, headOf(2, i, len(record)+6)}, part{2 + i*area, framed(record)})
			checkFound(t, d, 2, len(record)+6, area*size-len(record)-6, record)
		}
	}
	full := framed(long(4000), long(4000), long(142))
	checkFound(t, diskWith(512, part{1, headOf(1, 1, 8160)}, part{257, full}), 1, 8160, 0, long(4000), long(4000), long(142))
	checkFound(t, diskWith(512, part{1, headOf(1, 1, 8161)}, part{257, full}), 0, 0, 8160)
}

func TestEachBitOfAHeadIsTold(t *testing.T) {
	one, other := part{2, framed("one")}, part{4, framed("other")}
	for bit := range 64 {
		h := headOf(3, 1, 11)
		h[bit/8] ^= 1 << (bit % 8)
		checkFound(t, diskWith(6, one, other, part{0, headOf(2, 0, 9)}, part{1, h}), 2, 9, 55, "one")
		checkFound(t, diskWith(6, one, other, part{1, h}), 0, 0, 64)
	}
	for bit := range 64 {
		h := headOf(4, 0, 9)
		h[bit/8] ^= 1 << (bit % 8)
		checkFound(t, diskWith(6, one, other, part{0, h}, part{1, headOf(3, 1, 11)}), 3, 11, 53, "other")
	}
}

func TestOpenTellsErrSum(t *testing.T) {
	b := framed("one", "2")
	for used := range 65 {
		d := diskWith(6, part{0, headOf(2, 0, used)}, part{2, b})
		switch used {
		case 0:
			checkFound(t, d, 2, 0, 64)
		case 9:
			checkFound(t, d, 2, 9, 55, "one")
		case 16:
			checkFound(t, d, 2, 16, 48, "one", "2")
		default:
			checkRefused(t, d, api.ErrSum)
		}
	}
	for bit := range len(b) * 8 {
		c := slices.Clone(b)
		c[bit/8] ^= 1 << (bit % 8)
		checkRefused(t, diskWith(6, part{0, headOf(2, 0, 16)}, part{2, c}), api.ErrSum)
		checkRefused(t, diskWith(6, part{1, headOf(3, 1, 16)}, part{2, b}, part{4, c}), api.ErrSum)
	}
	// No other head is asked, where the greater Gen's records are spoilt.
	checkRefused(t, diskWith(6, part{0, headOf(2, 0, 16)}, part{1, headOf(3, 1, 16)}, part{2, b}), api.ErrSum)
	// A frame that ends in the other area is none of this one.
	checkRefused(t, diskWith(6, part{0, headOf(2, 0, 64)}, part{2, framed(long(70))}), api.ErrSum)
}

func TestWhatLiesBehindWhatIsUsedPlaysNoPart(t *testing.T) {
	d := diskWith(8, part{1, headOf(1, 0, 9)}, part{2, bytes.Repeat([]byte{255}, 96)}, part{2, framed("one")}, part{5, framed("other")})
	checkFound(t, d, 1, 9, 87, "one")
}

func TestOpenReadsAlone(t *testing.T) {
	d := diskWith(6, part{0, headOf(2, 0, 9)}, part{1, headOf(3, 1, 5)}, part{2, framed("one")})
	b := d.Bytes()
	d.Faults([]bool{true, false, true})
	d.Stop(3)
	checkRefused(t, d, api.ErrSum)
	checkRefused(t, disk.New(0), api.ErrArg)
	if d.Staged() != 0 || !d.On() {
		t.Error(d.Staged(), d.On())
	}
	for i, want := range []api.Errno{api.ErrDisk, api.OK, api.ErrDisk} {
		if e := d.Sync(); e != want {
			t.Error(i, e)
		}
	}
	checkKept(t, d, b)
	// It reads from one that is off, too.
	off := diskWith(6, part{0, headOf(2, 0, 9)}, part{2, framed("one")})
	off.Stop(0)
	checkFound(t, off, 2, 9, 55, "one")
}

// P10.2, P10.3: the calls

// A diskCall is a Write of a block, or, at -1, a Sync.
type diskCall part

var syncCall = diskCall{-1, nil}

func (c diskCall) of(d *disk.Disk) api.Errno {
	if c.at < 0 {
		return d.Sync()
	}
	return d.Write(c.at, c.b)
}

// A job is an Append, or a Replace, of a log that others made.
type job struct {
	name   string
	blocks int
	ahead  []func(*Log) api.Errno
	do     func(*Log) api.Errno
	calls  []diskCall
}

func appends(s string) func(*Log) api.Errno {
	return func(l *Log) api.Errno { return l.Append([]byte(s)) }
}

func replaces(all ...string) func(*Log) api.Errno {
	return func(l *Log) api.Errno { return l.Replace(texts(all...)) }
}

func jobs() []job {
	type list = []func(*Log) api.Errno
	three := framed("one", long(30), long(13))
	whole := framed(long(4000), long(100))
	var many []diskCall
	for at := 0; at < len(whole); at += size {
		many = append(many, diskCall{257 + at/size, whole[at:min(at+size, len(whole))]})
	}
	return []job{
		{"a first one", 6, nil, appends("a"), []diskCall{{2, framed("a")}, syncCall, {1, headOf(1, 0, 7)}, syncCall}},
		{"behind another", 6, list{appends("one")}, appends("a"), []diskCall{{2, framed("one", "a")}, syncCall, {0, headOf(2, 0, 16)}, syncCall}},
		{"up to a block's end", 6, list{appends("one")}, appends(long(17)), []diskCall{{2, framed("one", long(17))}, syncCall, {0, headOf(2, 0, 32)}, syncCall}},
		{"from a block's beginning", 6, list{appends(long(26))}, appends("a"), []diskCall{{3, framed("a")}, syncCall, {0, headOf(2, 0, 39)}, syncCall}},
		{"over a block's end", 6, list{appends("one")}, appends(long(18)), []diskCall{{2, framed("one", long(18))[:32]}, {3, framed("one", long(18))[32:]}, syncCall, {0, headOf(2, 0, 33)}, syncCall}},
		{"up to the area's end", 6, list{appends("one"), appends(long(30))}, appends(long(13)), []diskCall{{3, three[32:]}, syncCall, {1, headOf(3, 0, 64)}, syncCall}},
		{"a whole area", 6, nil, appends(long(58)), []diskCall{{2, framed(long(58))[:32]}, {3, framed(long(58))[32:]}, syncCall, {1, headOf(1, 0, 64)}, syncCall}},
		{"in area 1", 6, list{replaces("one")}, appends(long(30)), []diskCall{{4, framed("one", long(30))[:32]}, {5, framed("one", long(30))[32:]}, syncCall, {0, headOf(2, 1, 45)}, syncCall}},
		{"with an odd block", 7, list{replaces()}, appends("a"), []diskCall{{4, framed("a")}, syncCall, {0, headOf(2, 1, 7)}, syncCall}},
		{"other records", 6, list{appends("one"), appends("2")}, replaces("new"), []diskCall{{4, framed("new")}, syncCall, {1, headOf(3, 1, 9)}, syncCall}},
		{"several other records", 6, list{appends("one")}, replaces("new", long(20), "3"), []diskCall{{4, framed("new", long(20), "3")[:32]}, {5, framed("new", long(20), "3")[32:]}, syncCall, {0, headOf(2, 1, 42)}, syncCall}},
		{"other records in one whole block", 6, list{appends("one")}, replaces(long(26)), []diskCall{{4, framed(long(26))}, syncCall, {0, headOf(2, 1, 32)}, syncCall}},
		{"other records in a whole area", 6, list{appends("one")}, replaces("new", long(49)), []diskCall{{4, framed("new", long(49))[:32]}, {5, framed("new", long(49))[32:]}, syncCall, {0, headOf(2, 1, 64)}, syncCall}},
		{"no records", 6, list{appends("one")}, replaces(), []diskCall{syncCall, {0, headOf(2, 1, 0)}, syncCall}},
		{"no records of none", 4, nil, replaces(), []diskCall{syncCall, {1, headOf(1, 1, 0)}, syncCall}},
		{"back into area 0", 6, list{appends(long(58)), replaces("one")}, replaces("2"), []diskCall{{2, framed("2")}, syncCall, {1, headOf(3, 0, 7)}, syncCall}},
		{"many blocks", 512, nil, replaces(long(4000), long(100)), append(many, syncCall, diskCall{1, headOf(1, 1, len(whole))}, syncCall)},
	}
}

// ready is the disk as it is ahead of a job, and the log that lies on it.
func (j job) ready(t *testing.T) (*disk.Disk, *Log) {
	t.Helper()
	d := disk.New(j.blocks)
	l := opened(t, d)
	for i, do := range j.ahead {
		if e := do(l); e != api.OK {
			t.Fatal(j.name, i, e)
		}
	}
	return d, l
}

// cutsFor are some ways to tear up to n blocks.
func cutsFor(r *rand.Rand, n int) [][]byte {
	l := [][]byte{nil, bytes.Repeat([]byte{32}, n)}
	for range 4 {
		cuts := make([]byte, n)
		for i := range cuts {
			cuts[i] = byte(r.Intn(33))
		}
		l = append(l, cuts)
	}
	return l
}

func checkSameDisks(t *testing.T, name string, at int, got, want *disk.Disk) {
	t.Helper()
	if got.Staged() != want.Staged() || got.On() != want.On() || !bytes.Equal(got.Bytes(), want.Bytes()) {
		t.Fatalf("%s, %d: %d staged, %v, kept %q; want %d, %v, %q", name, at, got.Staged(), got.On(), got.Bytes(), want.Staged(), want.On(), want.Bytes())
	}
	for i := range want.Len() {
		if !bytes.Equal(got.Read(i), want.Read(i)) {
			t.Fatalf("%s, %d: block %d is %q, want %q", name, at, i, got.Read(i), want.Read(i))
		}
	}
}

// TestTheseCallsAreMade holds what a job leaves, when the disk goes off behind so many calls, against what the document's calls leave, made by hand.
func TestTheseCallsAreMade(t *testing.T) {
	r := rand.New(rand.NewSource(1))
	for _, j := range jobs() {
		for n := range len(j.calls) + 1 {
			for _, cuts := range cutsFor(r, len(j.calls)) {
				d, l := j.ready(t)
				want := disk.Open(d.Bytes())
				for _, c := range j.calls[:n] {
					c.of(want)
				}
				want.Stop(0)
				d.Stop(n)
				if e := j.do(l); (e == api.OK) != (n == len(j.calls)) || e != api.OK && e != api.ErrDisk {
					t.Fatal(j.name, n, e)
				}
				checkSameDisks(t, j.name, n, d, want)
				d.Crash(cuts)
				want.Crash(cuts)
				checkSameDisks(t, j.name, n, d, want)
			}
		}
	}
}

func TestNoMoreCallsAreMade(t *testing.T) {
	for _, j := range jobs() {
		d, l := j.ready(t)
		plan := make([]bool, len(j.calls)+1)
		plan[len(j.calls)] = true
		d.Faults(plan)
		if e := j.do(l); e != api.OK || d.Staged() != 0 {
			t.Fatal(j.name, e, d.Staged())
		}
		if e := d.Sync(); e != api.ErrDisk {
			t.Fatal(j.name, "more calls were made")
		}
	}
}

func TestAtTheFirstCallThatFails(t *testing.T) {
	for _, j := range jobs() {
		for n := range j.calls {
			d, l := j.ready(t)
			before, gen, used, room, records := d.Bytes(), l.Gen(), l.Used(), l.Room(), l.Records()
			want := disk.Open(before)
			for _, c := range j.calls[:n] {
				c.of(want)
			}
			want.Drop()
			plan := make([]bool, n+2)
			plan[n], plan[n+1] = true, true
			d.Faults(plan)
			if e := j.do(l); e != api.ErrDisk {
				t.Fatal(j.name, n, e)
			}
			checkSameDisks(t, j.name, n, d, want)
			// No call was made behind the one that failed.
			if e := d.Sync(); e != api.ErrDisk {
				t.Fatal(j.name, n, "more calls were made")
			}
			for _, k := range []*Log{l, opened(t, d)} {
				if k.Gen() != gen || k.Used() != used || k.Room() != room || !slices.EqualFunc(k.Records(), records, bytes.Equal) {
					t.Fatal(j.name, n, k.Gen(), k.Used(), k.Room(), k.Records())
				}
			}
			// Tried once more it is as if it had been tried once.
			e := j.do(l)
			twin, k := j.ready(t)
			if f := j.do(k); e != api.OK || f != api.OK {
				t.Fatal(j.name, n, e, f)
			}
			checkSameRecords(t, l, k)
			checkSameRecords(t, opened(t, d), opened(t, twin))
		}
	}
}

func checkSameRecords(t *testing.T, a, b *Log) {
	t.Helper()
	if a.Gen() != b.Gen() || a.Used() != b.Used() || a.Room() != b.Room() || !slices.EqualFunc(a.Records(), b.Records(), bytes.Equal) {
		t.Fatalf("%d, %d, %d, %.200q and %d, %d, %d, %.200q", a.Gen(), a.Used(), a.Room(), a.Records(), b.Gen(), b.Used(), b.Room(), b.Records())
	}
}

// P10.2

func TestAppend(t *testing.T) {
	d := disk.New(6)
	l := opened(t, d)
	checkLog(t, l, 0, 0, 64)
	for _, x := range []struct {
		s    string
		want api.Errno
		gen  int
		used int
	}{
		{"one", api.OK, 1, 9},
		{"", api.ErrArg, 1, 9},
		{long(4001), api.ErrLong, 1, 9},
		{long(4000), api.ErrFull, 1, 9},
		{long(50), api.ErrFull, 1, 9},
		{long(30), api.OK, 2, 45},
		{long(14), api.ErrFull, 2, 45},
		{"2", api.OK, 3, 52},
		{"one", api.OK, 4, 61},
		{"1", api.ErrFull, 4, 61},
		{"", api.ErrArg, 4, 61},
	} {
		if e := l.Append([]byte(x.s)); e != x.want || l.Gen() != x.gen || l.Used() != x.used || l.Room() != 64-x.used {
			t.Fatal(len(x.s), e, l.Gen(), l.Used(), l.Room())
		}
		checkSameRecords(t, l, opened(t, d))
	}
	checkLog(t, l, 4, 61, 3, "one", long(30), "2", "one")
}

func TestAppendFillsEachArea(t *testing.T) {
	for _, blocks := range []int{4, 5, 6, 7, 64} {
		area := (blocks - 2) / 2 * size
		for n := 1; n <= area+2; n++ {
			d := disk.New(blocks)
			l := opened(t, d)
			e := l.Append([]byte(long(n)))
			if (e == api.OK) != (n+6 <= area) || e != api.OK && e != api.ErrFull {
				t.Fatalf("%d blocks, %d bytes: %v", blocks, n, e)
			}
			if e == api.OK {
				checkLog(t, l, 1, n+6, area-n-6, long(n))
			} else {
				checkLog(t, l, 0, 0, area)
			}
			checkSameRecords(t, l, opened(t, d))
		}
	}
	l := opened(t, disk.New(512))
	appended(t, l, long(4000))
	appended(t, l, long(4000))
	if e := l.Append([]byte(long(143))); e != api.ErrFull {
		t.Error(e)
	}
	appended(t, l, long(142))
	checkLog(t, l, 3, 8160, 0, long(4000), long(4000), long(142))
}

func TestErrorsMakeNoCall(t *testing.T) {
	d := disk.New(6)
	l := opened(t, d)
	appended(t, l, long(50))
	b := d.Bytes()
	d.Faults([]bool{true})
	for i, x := range []struct {
		got, want api.Errno
	}{
		{l.Append(nil), api.ErrArg},
		{l.Append([]byte{}), api.ErrArg},
		{l.Append([]byte(long(4001))), api.ErrLong},
		{l.Append([]byte(long(4000))), api.ErrFull},
		{l.Append([]byte("abc")), api.ErrFull},
		{l.Replace(texts("a", "")), api.ErrArg},
		{l.Replace([][]byte{nil}), api.ErrArg},
		{l.Replace(texts("a", long(4001), "")), api.ErrLong},
		{l.Replace(texts(long(58), "", long(4001))), api.ErrArg},
		{l.Replace(texts(long(59))), api.ErrFull},
		{l.Replace(texts(long(40), long(40))), api.ErrFull},
	} {
		if x.got != x.want {
			t.Errorf("%d: %v, want %v", i, x.got, x.want)
		}
	}
	checkLog(t, l, 1, 56, 8, long(50))
	checkKept(t, d, b)
	if d.Staged() != 0 || d.Sync() != api.ErrDisk {
		t.Error("a call was made")
	}
}

func TestTheGreatestGen(t *testing.T) {
	d := diskWith(6, part{0, headOf(1<<18-4, 0, 9)}, part{2, framed("one")})
	l := opened(t, d)
	appended(t, l, "2")
	checkLog(t, l, 1<<18-3, 16, 48, "one", "2")
	replaced(t, l, "new")
	checkLog(t, l, 1<<18-2, 9, 55, "new")
	appended(t, l, "a")
	checkLog(t, l, 1<<18-1, 16, 48, "new", "a")
	b := d.Bytes()
	d.Faults([]bool{true})
	for _, k := range []*Log{l, opened(t, d)} {
		for i, x := range []struct {
			got, want api.Errno
		}{
			{k.Append([]byte("a")), api.ErrFull},
			{k.Append(nil), api.ErrArg},
			{k.Append([]byte(long(4001))), api.ErrLong},
			{k.Replace(nil), api.ErrFull},
			{k.Replace(texts("a")), api.ErrFull},
			{k.Replace(texts("")), api.ErrArg},
			{k.Replace(texts(long(4001))), api.ErrLong},
		} {
			if x.got != x.want {
				t.Errorf("%d: %v, want %v", i, x.got, x.want)
			}
		}
		checkLog(t, k, 1<<18-1, 16, 48, "new", "a")
	}
	checkKept(t, d, b)
	if d.Staged() != 0 || d.Sync() != api.ErrDisk {
		t.Error("a call was made")
	}
	// A Replace comes to the greatest one, too.
	d = diskWith(512, part{0, headOf(1<<18-2, 0, 0)})
	l = opened(t, d)
	replaced(t, l, long(4000), long(4000), long(142))
	checkLog(t, l, 1<<18-1, 8160, 0, long(4000), long(4000), long(142))
	checkSameRecords(t, l, opened(t, d))
}

// P10.3

func TestReplace(t *testing.T) {
	d := disk.New(6)
	l := opened(t, d)
	gen := 0
	for i, x := range []struct {
		all  []string
		want api.Errno
		used int
	}{
		{[]string{"one"}, api.OK, 9},
		{nil, api.OK, 0},
		{nil, api.OK, 0},
		{[]string{"a", "b", "c"}, api.OK, 21},
		{[]string{long(59)}, api.ErrFull, 21},
		{[]string{long(58)}, api.OK, 64},
		{[]string{long(26), long(26)}, api.OK, 64},
		{[]string{long(26), long(27)}, api.ErrFull, 64},
		{[]string{long(26), ""}, api.ErrArg, 64},
		{[]string{long(26), long(4001)}, api.ErrLong, 64},
		{[]string{"new"}, api.OK, 9},
	} {
		before := l.Records()
		if e := l.Replace(texts(x.all...)); e != x.want {
			t.Fatal(i, e)
		}
		want := before
		if x.want == api.OK {
			gen++
			want = texts(x.all...)
		}
		if l.Gen() != gen || l.Used() != x.used || l.Room() != 64-x.used || !slices.EqualFunc(l.Records(), want, bytes.Equal) {
			t.Fatal(i, l.Gen(), l.Used(), l.Room(), l.Records())
		}
		checkSameRecords(t, l, opened(t, d))
	}
}

func TestOneGoesOnBehindAReplace(t *testing.T) {
	d := disk.New(8)
	l := opened(t, d)
	appended(t, l, "one")
	replaced(t, l, "new", long(20))
	appended(t, l, "more")
	checkLog(t, l, 3, 45, 51, "new", long(20), "more")
	checkFound(t, d, 3, 45, 51, "new", long(20), "more")
	replaced(t, l)
	appended(t, l, "2")
	checkFound(t, d, 5, 7, 89, "2")
	appended(t, opened(t, d), "3")
	checkFound(t, d, 6, 14, 82, "2", "3")
}

// P10.4

func TestRecordsInOrder(t *testing.T) {
	l := opened(t, disk.New(512))
	var want []string
	used := 0
	for i := range 200 {
		s := strings.Repeat(string(rune('a'+i%26)), 1+i%60)
		appended(t, l, s)
		want = append(want, s)
		used += len(s) + 6
		checkLog(t, l, i+1, used, 8160-used, want...)
	}
	checkLog(t, l, 200, used, 8160-used, want...)
	b := l.Records()
	checkLog(t, l, 200, used, 8160-used, want...)
	if !slices.EqualFunc(l.Records(), b, bytes.Equal) {
		t.Error("they are others")
	}
}

// P10.5

func TestACrashLeavesTheOldOnesOrTheNew(t *testing.T) {
	for _, j := range jobs() {
		if j.blocks > 8 {
			continue
		}
		d, l := j.ready(t)
		before := l.Records()
		j.do(l)
		after := l.Records()
		for n := range len(j.calls) + 1 {
			for first := range 33 {
				for _, second := range []byte{0, 1, 7, 8, 31, 32} {
					d, l = j.ready(t)
					d.Stop(n)
					e := j.do(l)
					d.Crash([]byte{byte(first), second})
					got := opened(t, d).Records()
					want := before
					// A torn head may be whole, where what stood there ends likewise.
					if head := j.calls[len(j.calls)-2]; bytes.HasPrefix(d.Read(head.at), head.b) {
						want = after
					}
					if whole := n == len(j.calls)-1 && first >= 8; (e == api.OK || whole) && !slices.EqualFunc(got, after, bytes.Equal) {
						t.Fatalf("%s, %d, %d, %d, %v: %q", j.name, n, first, second, e, got)
					}
					if !slices.EqualFunc(got, want, bytes.Equal) {
						t.Fatalf("%s, %d, %d, %d: %q, want %q", j.name, n, first, second, got, want)
					}
				}
			}
		}
	}
}

// A model is a log's records, kept by hand.
type model struct {
	gen, used, room int
	records         [][]byte
}

func (m model) is(l *Log) bool {
	return l.Gen() == m.gen && l.Used() == m.used && l.Room() == m.room && slices.EqualFunc(l.Records(), m.records, bytes.Equal)
}

func (m model) with(all [][]byte) model {
	used := 0
	for _, b := range all {
		used += len(b) + 6
	}
	return model{m.gen + 1, used, m.used + m.room - used, all}
}

func drawnRecord(r *rand.Rand, most int) []byte {
	b := make([]byte, 1+r.Intn(most))
	for i := range b {
		b[i] = byte(r.Intn(256)) * byte(r.Intn(2))
	}
	return b
}

// play does one drawn thing to a log, and tells what it would come to, and its error.
func play(r *rand.Rand, l *Log, m model) (model, api.Errno) {
	if r.Intn(4) > 0 {
		b := drawnRecord(r, 40)
		return m.with(append(slices.Clone(m.records), b)), l.Append(b)
	}
	all := make([][]byte, r.Intn(4))
	for i := range all {
		all[i] = drawnRecord(r, 40)
	}
	return m.with(all), l.Replace(all)
}

func drawnPlan(r *rand.Rand) []bool {
	plan := make([]bool, r.Intn(12))
	for i := range plan {
		plan[i] = r.Intn(8) == 0
	}
	return plan
}

func TestDrawnRuns(t *testing.T) {
	r := rand.New(rand.NewSource(2))
	crashes, news := 0, 0
	for range 400 {
		blocks := 4 + r.Intn(20)
		d := disk.New(blocks)
		l := opened(t, d)
		now := model{room: (blocks - 2) / 2 * size}
		for range 60 {
			d.Faults(drawnPlan(r))
			if r.Intn(3) == 0 {
				d.Stop(r.Intn(7))
			}
			next, e := play(r, l, now)
			if full := next.room < 0; (e == api.ErrFull) != full {
				t.Fatalf("%v, room %d", e, next.room)
			}
			if e == api.OK {
				now = next
			} else if e != api.ErrFull && e != api.ErrDisk {
				t.Fatal(e)
			}
			if !now.is(l) {
				t.Fatalf("%v: %d, %d, %d, %q, want %v", e, l.Gen(), l.Used(), l.Room(), l.Records(), now)
			}
			if !d.On() || r.Intn(6) == 0 {
				crashes++
				d.Crash(cutsFor(r, d.Staged())[r.Intn(6)])
				l = opened(t, d)
				if e == api.ErrDisk && next.is(l) && !now.is(l) {
					news++
					now = next
				}
			}
			if k := opened(t, d); !now.is(l) || !now.is(k) {
				t.Fatalf("%v: %d, %d, %d, %q, want %v", e, k.Gen(), k.Used(), k.Room(), k.Records(), now)
			}
			d.Faults(nil)
			d.Stop(-1)
		}
	}
	if crashes < 1000 || news < 100 {
		t.Error(crashes, news)
	}
}

// R5, R6

func TestWhatIsHandedInIsNeitherChangedNorKept(t *testing.T) {
	d := disk.New(8)
	l := opened(t, d)
	room := []byte("abc......")
	if e := l.Append(room[:3]); e != api.OK || string(room) != "abc......" {
		t.Fatalf("%v, %q", e, room)
	}
	clear(room)
	checkLog(t, l, 1, 9, 87, "abc")
	all := texts("one", "2")
	if e := l.Replace(all); e != api.OK || !slices.EqualFunc(all, texts("one", "2"), bytes.Equal) {
		t.Fatalf("%v, %q", e, all)
	}
	clear(all[0])
	all[1] = []byte("other")
	checkLog(t, l, 2, 16, 80, "one", "2")
	appended(t, l, "3")
	checkFound(t, d, 3, 23, 73, "one", "2", "3")
}

func TestRecordsAreMemoryOfTheirOwn(t *testing.T) {
	d := disk.New(8)
	l := opened(t, d)
	replaced(t, l, "one", "2", "three")
	for _, k := range []*Log{l, opened(t, d)} {
		got := k.Records()
		for i := range got {
			_ = append(got[i], "xxxxxxxxxxxxxxxx"...)
		}
		if !slices.EqualFunc(got, texts("one", "2", "three"), bytes.Equal) {
			t.Errorf("%q", got)
		}
		again := k.Records()
		for i := range got {
			clear(got[i])
			got[i] = nil
		}
		if !slices.EqualFunc(again, texts("one", "2", "three"), bytes.Equal) {
			t.Errorf("%q", again)
		}
		checkLog(t, k, 1, 27, 69, "one", "2", "three")
	}
	appended(t, l, "4")
	checkFound(t, d, 2, 34, 62, "one", "2", "three", "4")
}

func TestAnAppendLeavesWhatWasAnswered(t *testing.T) {
	l := opened(t, disk.New(8))
	appended(t, l, "one")
	before := l.Records()
	appended(t, l, "2")
	replaced(t, l, "new")
	if !slices.EqualFunc(before, texts("one"), bytes.Equal) {
		t.Errorf("%q", before)
	}
}

func TestLogsAreApart(t *testing.T) {
	a, b := opened(t, disk.New(6)), opened(t, disk.New(8))
	appended(t, a, "a")
	appended(t, b, "bb")
	replaced(t, b, "b")
	checkLog(t, a, 1, 7, 57, "a")
	checkLog(t, b, 2, 7, 89, "b")
}

// The document's example.
func TestExample(t *testing.T) {
	d := disk.New(6)
	l := opened(t, d)
	if l.Room() != 64 {
		t.Error(l.Room())
	}
	d.Faults([]bool{false, false, false, false, true})
	appended(t, l, "a")
	checkLog(t, l, 1, 7, 57, "a")
	if e := d.Sync(); e != api.ErrDisk {
		t.Error("other calls were made than two Writes, two Syncs")
	}
	want := make([]byte, 6*size)
	copy(want[size:], []byte{0x63, 0xba, 0xe9, 0x28, 0, 0, 0x40, 7})
	copy(want[2*size:], []byte{0, 1, 0xe0, 0x6b, 0x2b, 0x6c, 'a'})
	checkKept(t, d, want)
}
