package disk

import (
	"bytes"
	"fmt"
	"math"
	"math/rand"
	"slices"
	"strings"
	"testing"

	"matricula/api"
)

const size = 32

// padded is a block that begins with s.
func padded(s string) []byte { return append([]byte(s), make([]byte, size-len(s))...) }

// whole is a run of blocks that begin with these texts.
func whole(texts ...string) []byte {
	var l []byte
	for _, s := range texts {
		l = append(l, padded(s)...)
	}
	return l
}

func letters(from byte, n int) string {
	b := make([]byte, n)
	for i := range b {
		b[i] = from + byte(i)
	}
	return string(b)
}

func write(t *testing.T, d *Disk, i int, s string) {
	t.Helper()
	if e := d.Write(i, []byte(s)); e != api.OK {
		t.Fatalf("Write(%d, %q) = %v", i, s, e)
	}
}

func sync(t *testing.T, d *Disk) {
	t.Helper()
	if e := d.Sync(); e != api.OK {
		t.Fatalf("Sync() = %v", e)
	}
}

func checkKept(t *testing.T, d *Disk, texts ...string) {
	t.Helper()
	if got, want := d.Bytes(), whole(texts...); !bytes.Equal(got, want) {
		t.Fatalf("kept is %q, want %q", got, want)
	}
}

func checkStaged(t *testing.T, d *Disk, n int, texts ...string) {
	t.Helper()
	if got := d.Staged(); got != n {
		t.Fatalf("%d are staged, want %d", got, n)
	}
	for i, s := range texts {
		if got := d.Read(i); !bytes.Equal(got, padded(s)) {
			t.Fatalf("Read(%d) = %q, want %q", i, got, s)
		}
	}
}

// played are the errors of calls that are told letter by letter: w a Write, s a Sync, r a Write at no block, l one that is too long.
func played(d *Disk, calls string) string {
	var out strings.Builder
	for _, c := range calls {
		e := api.OK
		switch c {
		case 'w':
			e = d.Write(0, []byte("w"))
		case 's':
			e = d.Sync()
		case 'r':
			e = d.Write(d.Len(), nil)
		case 'l':
			e = d.Write(0, make([]byte, size+1))
		}
		out.WriteString(map[api.Errno]string{api.OK: ".", api.ErrRange: "r", api.ErrLong: "l", api.ErrDisk: "d"}[e])
	}
	return out.String()
}

func checkPlayed(t *testing.T, d *Disk, calls, want string) {
	t.Helper()
	if got := played(d, calls); got != want {
		t.Errorf("%s: %s, want %s", calls, got, want)
	}
}

// P8.1

func TestNew(t *testing.T) {
	for _, x := range []struct{ blocks, want int }{{math.MinInt, 0}, {-1, 0}, {0, 0}, {1, 1}, {2, 2}, {511, 511}, {512, 512}, {513, 512}, {math.MaxInt, 512}} {
		d := New(x.blocks)
		if d.Len() != x.want || !bytes.Equal(d.Bytes(), make([]byte, x.want*size)) {
			t.Errorf("New(%d) has %d blocks, %d bytes", x.blocks, d.Len(), len(d.Bytes()))
		}
		if !d.On() || d.Staged() != 0 {
			t.Errorf("New(%d): %v, %d", x.blocks, d.On(), d.Staged())
		}
	}
}

func TestOpen(t *testing.T) {
	all := make([]byte, 600*size)
	for i := range all {
		all[i] = byte(i*7 + i/size)
	}
	for _, x := range []struct{ bytes, want int }{{0, 0}, {1, 0}, {31, 0}, {32, 1}, {33, 1}, {63, 1}, {64, 2}, {511 * 32, 511}, {512*32 - 1, 511}, {512 * 32, 512}, {512*32 + 1, 512}, {513 * 32, 512}, {600 * 32, 512}} {
		d := Open(all[:x.bytes])
		if d.Len() != x.want || !bytes.Equal(d.Bytes(), all[:x.want*size]) {
			t.Errorf("Open of %d bytes has %d blocks", x.bytes, d.Len())
		}
		if !d.On() || d.Staged() != 0 {
			t.Errorf("Open of %d bytes: %v, %d", x.bytes, d.On(), d.Staged())
		}
		for i := range x.want {
			if got := d.Read(i); !bytes.Equal(got, all[i*size:(i+1)*size]) {
				t.Fatalf("Open of %d bytes: Read(%d) = %q", x.bytes, i, got)
			}
		}
	}
	if d := Open(nil); d.Len() != 0 || len(d.Bytes()) != 0 {
		t.Error(d.Len())
	}
}

func TestANewDiskGoesOn(t *testing.T) {
	for _, d := range []*Disk{New(1), Open(make([]byte, size))} {
		checkPlayed(t, d, strings.Repeat("ws", 1000), strings.Repeat("..", 1000))
		if !d.On() {
			t.Error("it is off")
		}
	}
}

// P8.2

func TestWriteAndSync(t *testing.T) {
	d := New(3)
	write(t, d, 0, "one")
	write(t, d, 2, "three")
	write(t, d, 0, "1")
	checkStaged(t, d, 3, "1", "", "three")
	checkKept(t, d, "", "", "")
	sync(t, d)
	checkStaged(t, d, 0, "1", "", "three")
	checkKept(t, d, "1", "", "three")
	sync(t, d)
	checkKept(t, d, "1", "", "three")
	// A shorter block has 0s up to its end, whatever stood there.
	write(t, d, 2, "")
	checkStaged(t, d, 1, "1", "", "")
	checkKept(t, d, "1", "", "three")
	sync(t, d)
	checkKept(t, d, "1", "", "")
}

func TestWriteOfEachLength(t *testing.T) {
	full := letters('!', size)
	for n := range size + 1 {
		d := New(2)
		write(t, d, 1, full)
		sync(t, d)
		write(t, d, 1, full[:n])
		checkStaged(t, d, 1, "", full[:n])
		checkKept(t, d, "", full)
		sync(t, d)
		checkKept(t, d, "", full[:n])
	}
	d := New(1)
	if e := d.Write(0, nil); e != api.OK || d.Staged() != 1 {
		t.Error(e, d.Staged())
	}
}

func TestWriteRefuses(t *testing.T) {
	d := New(3)
	full := New(512)
	for i, x := range []struct {
		d    *Disk
		at   int
		n    int
		want api.Errno
	}{
		{d, -1, 0, api.ErrRange},
		{d, math.MinInt, 0, api.ErrRange},
		{d, 3, 1, api.ErrRange},
		{d, math.MaxInt, 32, api.ErrRange},
		{d, 3, 33, api.ErrRange},
		{d, -1, 5000, api.ErrRange},
		{New(0), 0, 0, api.ErrRange},
		{full, 512, 1, api.ErrRange},
		{full, 511, 33, api.ErrLong},
		{d, 0, 33, api.ErrLong},
		{d, 2, 64, api.ErrLong},
		{d, 2, 5000, api.ErrLong},
	} {
		if e := x.d.Write(x.at, bytes.Repeat([]byte("x"), x.n)); e != x.want || x.d.Staged() != 0 {
			t.Errorf("%d: Write(%d, %d bytes) = %v", i, x.at, x.n, e)
		}
	}
	checkKept(t, d, "", "", "")
	write(t, full, 511, "last")
	if got := full.Read(511); !bytes.Equal(got, padded("last")) {
		t.Errorf("%q", got)
	}
}

func TestErrorsInOrder(t *testing.T) {
	off := New(2)
	off.Stop(0)
	planned := New(2)
	planned.Faults([]bool{true})
	for i, d := range []*Disk{off, planned} {
		if e := d.Write(2, make([]byte, 33)); e != api.ErrRange {
			t.Error(i, e)
		}
		if e := d.Write(1, make([]byte, 33)); e != api.ErrLong {
			t.Error(i, e)
		}
		if e := d.Write(1, make([]byte, 32)); e != api.ErrDisk {
			t.Error(i, e)
		}
	}
}

func TestFaults(t *testing.T) {
	for _, x := range []struct{ plan, calls, want string }{
		{"", "wsws", "...."},
		{"d", "wws", "d.."},
		{"d", "sww", "d.."},
		{".d", "wws", ".d."},
		{".d", "wsw", ".d."},
		{"dd", "swsw", "dd.."},
		{".dd.d", "wswswsw", ".dd.d.."},
		// Who does not come to ask takes nothing away.
		{".d", "rwlrs", "r.lrd"},
		{"d", "rrllws", "rrlld."},
		{"...", "wwww", "...."},
	} {
		d := New(1)
		var plan []bool
		for _, c := range x.plan {
			plan = append(plan, c == 'd')
		}
		d.Faults(plan)
		if got := played(d, x.calls); got != x.want {
			t.Errorf("plan %s, %s: %s, want %s", x.plan, x.calls, got, x.want)
		}
	}
}

func TestOtherCallsTakeNothingFromThePlan(t *testing.T) {
	d := New(1)
	d.Faults([]bool{true})
	d.Len()
	d.Read(0)
	d.Staged()
	d.On()
	d.Bytes()
	d.Drop()
	d.Stop(5)
	d.Stop(-1)
	checkPlayed(t, d, "ws", "d.")
}

func TestFaultsAreThePlanFromNowOn(t *testing.T) {
	d := New(1)
	d.Faults([]bool{true, true, true, true})
	checkPlayed(t, d, "w", "d")
	d.Faults([]bool{false, true})
	checkPlayed(t, d, "wsws", ".d..")
	d.Faults([]bool{true, true})
	d.Faults(nil)
	checkPlayed(t, d, "ws", "..")
	d.Faults([]bool{true, true})
	d.Faults([]bool{})
	checkPlayed(t, d, "ws", "..")
}

func TestACallThatFailsChangesNothing(t *testing.T) {
	d := New(2)
	write(t, d, 0, "kept")
	sync(t, d)
	write(t, d, 0, "staged")
	d.Faults([]bool{true, true})
	checkPlayed(t, d, "wsrl", "ddrl")
	checkStaged(t, d, 1, "staged", "")
	checkKept(t, d, "kept", "")
	sync(t, d)
	checkKept(t, d, "staged", "")
}

func TestDrop(t *testing.T) {
	d := New(2)
	d.Drop()
	write(t, d, 0, "kept")
	sync(t, d)
	write(t, d, 0, "staged")
	write(t, d, 1, "staged")
	write(t, d, 0, "again")
	d.Drop()
	checkStaged(t, d, 0, "kept", "")
	checkKept(t, d, "kept", "")
	sync(t, d)
	checkKept(t, d, "kept", "")
	write(t, d, 1, "new")
	checkStaged(t, d, 1, "kept", "new")
}

func TestDropWhileOff(t *testing.T) {
	d := New(1)
	write(t, d, 0, "staged")
	write(t, d, 0, "again")
	d.Stop(0)
	d.Drop()
	checkStaged(t, d, 2, "again")
	d.Crash([]byte{0, 2})
	checkKept(t, d, "ag")
}

func TestStop(t *testing.T) {
	for _, x := range []struct {
		n           int
		calls, want string
		on          bool
	}{
		{0, "", "", false},
		{0, "wsrl", "ddrl", false},
		{1, "", "", true},
		{1, "w", ".", false},
		{1, "s", ".", false},
		{1, "wsw", ".dd", false},
		{2, "w", ".", true},
		{2, "wsws", "..dd", false},
		// Who does not come to ask is not counted.
		{2, "rlwrl", "rl.rl", true},
		{2, "rlwrlsw", "rl.rl.d", false},
		{5, "wswsw", ".....", false},
		{5, "wsws", "....", true},
		{-1, "wsws", "....", true},
		{math.MinInt, "wsws", "....", true},
		{math.MaxInt, "wsws", "....", true},
	} {
		d := New(1)
		d.Stop(x.n)
		if got := played(d, x.calls); got != x.want || d.On() != x.on {
			t.Errorf("Stop(%d), %s: %s, want %s; on: %v", x.n, x.calls, got, x.want, d.On())
		}
	}
}

func TestTheLastStopCounts(t *testing.T) {
	d := New(1)
	d.Stop(1)
	d.Stop(3)
	checkPlayed(t, d, "ww", "..")
	d.Stop(2)
	checkPlayed(t, d, "w", ".")
	d.Stop(-1)
	checkPlayed(t, d, "wswsws", "......")
	d.Stop(4)
	d.Stop(0)
	checkPlayed(t, d, "w", "d")
}

func TestWhatIsOffStaysOff(t *testing.T) {
	for _, n := range []int{-1, 0, 1, 5, math.MinInt, math.MaxInt} {
		d := New(1)
		d.Stop(0)
		d.Stop(n)
		if d.On() {
			t.Errorf("Stop(%d) has it on", n)
		}
		checkPlayed(t, d, "wsws", "dddd")
		d.Drop()
		d.Faults(nil)
		if d.On() {
			t.Error("it is on")
		}
		// What was said to a disk that is off plays no part behind the crash.
		d.Crash(nil)
		checkPlayed(t, d, "wswswsws", "........")
	}
}

func TestACallThatThePlanFailsIsCounted(t *testing.T) {
	d := New(1)
	d.Faults([]bool{true, true})
	d.Stop(2)
	checkPlayed(t, d, "w", "d")
	if !d.On() {
		t.Error("it is off")
	}
	checkPlayed(t, d, "sw", "dd")
	if d.On() {
		t.Error("it is on")
	}
}

func TestWhileOff(t *testing.T) {
	d := New(2)
	write(t, d, 0, "kept")
	sync(t, d)
	write(t, d, 0, "staged")
	d.Stop(0)
	checkPlayed(t, d, "wsrl", "ddrl")
	checkStaged(t, d, 1, "staged", "")
	checkKept(t, d, "kept", "")
	if d.Len() != 2 || d.On() {
		t.Error(d.Len(), d.On())
	}
}

// P8.3

func TestRead(t *testing.T) {
	d := New(3)
	for _, i := range []int{math.MinInt, -1, 3, 4, math.MaxInt} {
		if got := d.Read(i); len(got) != 0 {
			t.Errorf("Read(%d) = %q", i, got)
		}
	}
	write(t, d, 1, "a")
	write(t, d, 2, "b")
	write(t, d, 1, "c")
	write(t, d, 2, "dd")
	write(t, d, 1, "e")
	checkStaged(t, d, 5, "", "e", "dd")
	checkKept(t, d, "", "", "")
	if got := New(0).Read(0); len(got) != 0 {
		t.Errorf("%q", got)
	}
}

func TestBytes(t *testing.T) {
	d := New(3)
	for i, s := range []string{"zero", "one", "two"} {
		write(t, d, i, s)
	}
	checkKept(t, d, "", "", "")
	sync(t, d)
	write(t, d, 1, "staged")
	checkKept(t, d, "zero", "one", "two")
	again := Open(d.Bytes())
	checkKept(t, again, "zero", "one", "two")
	checkStaged(t, again, 0, "zero", "one", "two")
	if got := New(0).Bytes(); len(got) != 0 {
		t.Errorf("%q", got)
	}
}

// P8.4

func TestCrash(t *testing.T) {
	full := letters('a', size)
	for i, x := range []struct {
		cuts   []byte
		writes []string // the digit of a block, and its text
		want   []string
	}{
		{nil, nil, []string{"old", ""}},
		{[]byte{32}, nil, []string{"old", ""}},
		{[]byte{1}, []string{"0ab"}, []string{"ald", ""}},
		{[]byte{1}, []string{"1ab"}, []string{"old", "a"}},
		{[]byte{0}, []string{"0ab"}, []string{"old", ""}},
		{nil, []string{"0ab", "1ab"}, []string{"old", ""}},
		{[]byte{}, []string{"0ab", "1ab"}, []string{"old", ""}},
		// The 0s up to a block's end are bytes of it.
		{[]byte{3}, []string{"0ab"}, []string{"ab", ""}},
		{[]byte{32}, []string{"0"}, []string{"", ""}},
		{[]byte{32}, []string{"0" + full}, []string{full, ""}},
		{[]byte{31}, []string{"0" + full}, []string{full[:31], ""}},
		{[]byte{33}, []string{"0" + full}, []string{"old", ""}},
		{[]byte{34}, []string{"0" + full}, []string{"ald", ""}},
		{[]byte{65}, []string{"0" + full}, []string{full, ""}},
		{[]byte{66}, []string{"0" + full}, []string{"old", ""}},
		{[]byte{255}, []string{"0" + full}, []string{full[:24], ""}},
		{[]byte{2}, []string{"0ab", "0xy", "1z"}, []string{"abd", ""}},
		{[]byte{0, 2}, []string{"0ab", "0xy", "1z"}, []string{"xyd", ""}},
		{[]byte{2, 1}, []string{"0ab", "0xy", "1z"}, []string{"xbd", ""}},
		{[]byte{1, 2}, []string{"0ab", "0xy", "1z"}, []string{"xyd", ""}},
		{[]byte{0, 0, 1}, []string{"0ab", "0xy", "1z"}, []string{"old", "z"}},
		{[]byte{2, 0, 1, 32, 32}, []string{"0ab", "0xy", "1z"}, []string{"abd", "z"}},
		{[]byte{6, 3}, []string{"0abcdef", "0ABC"}, []string{"ABCdef", ""}},
		{[]byte{6, 5}, []string{"0abcdef", "0ABC"}, []string{"ABC\x00\x00f", ""}},
	} {
		d := Open(whole("old", ""))
		for _, s := range x.writes {
			write(t, d, int(s[0]-'0'), s[1:])
		}
		d.Crash(x.cuts)
		if got, want := d.Bytes(), whole(x.want...); !bytes.Equal(got, want) {
			t.Errorf("%d: kept is %q, want %q", i, got, want)
		}
		checkStaged(t, d, 0, x.want...)
	}
}

func TestTheExample(t *testing.T) {
	d := New(2)
	write(t, d, 0, "ab")
	d.Crash([]byte{1})
	checkKept(t, d, "a", "")
}

func TestEachCut(t *testing.T) {
	old, fresh := letters('0', size), letters('a', size)
	for cut := range 256 {
		d := Open(whole(old, old))
		write(t, d, 1, fresh)
		d.Crash([]byte{byte(cut)})
		n := cut % 33
		checkKept(t, d, old, fresh[:n]+old[n:])
	}
}

func TestBehindACrash(t *testing.T) {
	for _, off := range []bool{false, true} {
		d := New(1)
		write(t, d, 0, "ab")
		d.Faults([]bool{true, true, true})
		d.Stop(2)
		if off {
			d.Stop(0)
		}
		d.Crash([]byte{1})
		if !d.On() || d.Staged() != 0 {
			t.Error(d.On(), d.Staged())
		}
		checkKept(t, d, "a")
		checkPlayed(t, d, "wswswsws", "........")
		checkKept(t, d, "w")
	}
}

func TestAPlanThatWasLeftWhileOffIsGone(t *testing.T) {
	d := New(1)
	d.Stop(0)
	d.Faults([]bool{true, true})
	checkPlayed(t, d, "ws", "dd")
	d.Crash(nil)
	checkPlayed(t, d, "ws", "..")
}

// P8.5

func drawnBlock(r *rand.Rand) []byte {
	b := make([]byte, r.Intn(size+1))
	for i := range b {
		b[i] = byte(r.Intn(256))
	}
	return b
}

// likeDisks are disks that are the same, with blocks that are kept and others that are staged; and a third one where nothing was staged.
func likeDisks(t *testing.T, r *rand.Rand) (a, b, bare *Disk) {
	all := make([]byte, (1+r.Intn(6))*size)
	for i := range all {
		all[i] = byte(r.Intn(256))
	}
	a, b, bare = Open(all), Open(all), Open(all)
	for range r.Intn(12) {
		i, s := r.Intn(a.Len()), string(drawnBlock(r))
		write(t, a, i, s)
		write(t, b, i, s)
	}
	return a, b, bare
}

func TestACrashWithAllIsAsASync(t *testing.T) {
	r := rand.New(rand.NewSource(1))
	for range 500 {
		a, b, _ := likeDisks(t, r)
		a.Crash(bytes.Repeat([]byte{32}, a.Staged()))
		sync(t, b)
		if !bytes.Equal(a.Bytes(), b.Bytes()) || a.Staged() != b.Staged() {
			t.Fatalf("%q, %q", a.Bytes(), b.Bytes())
		}
	}
}

func TestACrashWithNoneIsAsADrop(t *testing.T) {
	r := rand.New(rand.NewSource(2))
	for range 500 {
		a, b, bare := likeDisks(t, r)
		a.Crash(make([]byte, r.Intn(a.Staged()+1)))
		b.Drop()
		if !bytes.Equal(a.Bytes(), bare.Bytes()) || !bytes.Equal(b.Bytes(), bare.Bytes()) || a.Staged() != 0 || b.Staged() != 0 {
			t.Fatalf("%q, %q", a.Bytes(), b.Bytes())
		}
	}
}

func TestReadIsWhatASyncWouldKeep(t *testing.T) {
	r := rand.New(rand.NewSource(3))
	for range 500 {
		a, b, _ := likeDisks(t, r)
		sync(t, b)
		var got []byte
		for i := range a.Len() {
			got = append(got, a.Read(i)...)
		}
		if !bytes.Equal(got, b.Bytes()) {
			t.Fatalf("%q, %q", got, b.Bytes())
		}
	}
}

// history is the document's words told once more: byte by byte what is kept, and all that was said of calls to come.
type history struct {
	kept   []byte
	at     []int
	staged [][]byte
	plan   []bool
	off    bool
	stops  []int // how many calls more, if there is such a number
}

func (h *history) ask() api.Errno {
	if h.off {
		return api.ErrDisk
	}
	if len(h.stops) > 0 {
		h.stops[0]--
		h.off = h.stops[0] == 0
	}
	if len(h.plan) > 0 {
		var next bool
		next, h.plan = h.plan[0], h.plan[1:]
		if next {
			return api.ErrDisk
		}
	}
	return api.OK
}

func (h *history) write(i int, b []byte) api.Errno {
	switch {
	case i < 0 || i*size >= len(h.kept):
		return api.ErrRange
	case len(b) > size:
		return api.ErrLong
	}
	e := h.ask()
	if e == api.OK {
		h.at = append(h.at, i)
		h.staged = append(h.staged, padded(string(b)))
	}
	return e
}

// laid is what would be kept, if of the staged blocks so many bytes were.
func (h *history) laid(cut func(i int) int) []byte {
	kept := slices.Clone(h.kept)
	for i, b := range h.staged {
		for n := range cut(i) {
			kept[h.at[i]*size+n] = b[n]
		}
	}
	return kept
}

func allOf(int) int { return size }

func (h *history) sync() api.Errno {
	e := h.ask()
	if e == api.OK {
		h.kept, h.at, h.staged = h.laid(allOf), nil, nil
	}
	return e
}

func (h *history) crash(cuts []byte) {
	h.kept = h.laid(func(i int) int {
		if i < len(cuts) {
			return int(cuts[i]) % 33
		}
		return 0
	})
	*h = history{kept: h.kept}
}

func (h *history) stop(n int) {
	h.stops = nil
	if n == 0 {
		h.off = true
	}
	if n > 0 {
		h.stops = []int{n}
	}
}

// step has the same happen to both, and tells what.
func step(r *rand.Rand, d *Disk, h *history) (told string, got, want api.Errno) {
	switch n := r.Intn(20); {
	case n < 10:
		i, b := r.Intn(d.Len()+2)-1, drawnBlock(r)
		if r.Intn(10) == 0 {
			b = append(b, make([]byte, size)...)
		}
		return fmt.Sprintf("Write(%d, %q)", i, b), d.Write(i, b), h.write(i, b)
	case n < 13:
		return "Sync()", d.Sync(), h.sync()
	case n < 14:
		d.Drop()
		if !h.off {
			h.at, h.staged = nil, nil
		}
		return "Drop()", api.OK, api.OK
	case n < 16:
		plan := make([]bool, r.Intn(6))
		for i := range plan {
			plan[i] = r.Intn(2) == 0
		}
		d.Faults(plan)
		h.plan = slices.Clone(plan)
		return fmt.Sprint("Faults", plan), api.OK, api.OK
	case n < 18:
		n := r.Intn(8) - 2
		d.Stop(n)
		h.stop(n)
		return fmt.Sprint("Stop ", n), api.OK, api.OK
	}
	cuts := make([]byte, r.Intn(8))
	r.Read(cuts)
	d.Crash(cuts)
	h.crash(cuts)
	return fmt.Sprint("Crash", cuts), api.OK, api.OK
}

func TestWhateverHappens(t *testing.T) {
	r := rand.New(rand.NewSource(4))
	for range 300 {
		blocks := r.Intn(5)
		d, h := New(blocks), &history{kept: make([]byte, blocks*size)}
		var all []string
		for range 120 {
			told, got, want := step(r, d, h)
			all = append(all, told)
			ahead := h.laid(allOf)
			var read []byte
			for i := range d.Len() {
				read = append(read, d.Read(i)...)
			}
			if got != want || d.Len() != blocks || d.On() == h.off || d.Staged() != len(h.staged) || !bytes.Equal(d.Bytes(), h.kept) || !bytes.Equal(read, ahead) {
				t.Fatalf("%s: %v, want %v; %v, %d, %q, %q, want %v, %d, %q, %q", strings.Join(all, " "), got, want, d.On(), d.Staged(), d.Bytes(), read, !h.off, len(h.staged), h.kept, ahead)
			}
		}
	}
}

// R4, R5

func TestWhatIsHandedInIsNeitherChangedNorKept(t *testing.T) {
	all, b, plan, cuts := whole("all"), []byte("staged..")[:6], []bool{true, false, true}, []byte{40, 2}
	d := Open(all)
	write(t, d, 0, "")
	if e := d.Write(0, b); e != api.OK {
		t.Fatal(e)
	}
	d.Faults(plan)
	if string(all) != string(whole("all")) || string(b[:8]) != "staged.." || !slices.Equal(plan, []bool{true, false, true}) {
		t.Errorf("%q, %q, %v", all, b[:8], plan)
	}
	clear(all)
	copy(b, "spoilt")
	clear(plan)
	checkStaged(t, d, 2, "staged")
	checkKept(t, d, "all")
	checkPlayed(t, d, "sss", "d.d")
	checkKept(t, d, "staged")
	if d.Crash(cuts); !slices.Equal(cuts, []byte{40, 2}) {
		t.Error(cuts)
	}
}

func TestWhatIsAnsweredIsMemoryOfItsOwn(t *testing.T) {
	d := Open(whole("kept", "too"))
	write(t, d, 1, "staged")
	for range 2 {
		for _, l := range [][]byte{d.Bytes(), d.Read(0), d.Read(1)} {
			for i := range l {
				l[i] = 'x'
			}
			_ = append(l, 'x')
		}
	}
	checkStaged(t, d, 1, "kept", "staged")
	checkKept(t, d, "kept", "too")
	a, b := d.Bytes(), d.Read(0)
	write(t, d, 0, "new")
	sync(t, d)
	if !bytes.Equal(a, whole("kept", "too")) || !bytes.Equal(b, padded("kept")) {
		t.Errorf("%q, %q", a, b)
	}
}

func TestDisksAreApart(t *testing.T) {
	a, b := New(1), New(1)
	a.Faults([]bool{true})
	write(t, b, 0, "b")
	sync(t, b)
	b.Stop(0)
	if !a.On() {
		t.Error("it is off")
	}
	checkPlayed(t, a, "ws", "d.")
	checkKept(t, a, "")
	checkKept(t, b, "b")
}
