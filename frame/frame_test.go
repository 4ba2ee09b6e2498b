package frame

import (
	"bytes"
	"encoding/hex"
	"hash/crc32"
	"math"
	"math/rand"
	"reflect"
	"slices"
	"testing"

	"matricula/api"
)

var castagnoli = crc32.MakeTable(crc32.Castagnoli)

// framed is the document's word for word, whatever the length: two bytes of it, four of the sum of these and of the record, the record.
func framed(length int, b []byte) []byte {
	summed := append([]byte{byte(length >> 8), byte(length)}, b...)
	sum := crc32.Checksum(summed, castagnoli)
	return slices.Concat(summed[:2], []byte{byte(sum >> 24), byte(sum >> 16), byte(sum >> 8), byte(sum)}, b)
}

func framedAll(l [][]byte) []byte {
	var out []byte
	for _, b := range l {
		out = append(out, framed(len(b), b)...)
	}
	return out
}

// scanned is the document's word for word: as long as a whole frame of a record stands there whose sum is right.
func scanned(b []byte) ([][]byte, int) {
	var l [][]byte
	at := 0
	for len(b)-at >= 6 {
		n := int(b[at])*256 + int(b[at+1])
		if n < 1 || n > 4000 || len(b)-at-6 < n {
			break
		}
		record := b[at+6 : at+6+n]
		if !bytes.Equal(framed(n, record), b[at:at+6+n]) {
			break
		}
		l = append(l, record)
		at += 6 + n
	}
	return l, at
}

func drawn(r *rand.Rand, n int) []byte {
	b := make([]byte, n)
	for i := range b {
		b[i] = byte(r.Intn(256))
		if r.Intn(4) == 0 {
			b[i] = []byte{0, 255, 1, 128}[r.Intn(4)]
		}
	}
	return b
}

func drawnRecords(r *rand.Rand, most, longest int) [][]byte {
	l := make([][]byte, r.Intn(most+1))
	for i := range l {
		l[i] = drawn(r, 1+r.Intn(longest))
	}
	return l
}

func texts(l ...string) [][]byte {
	var out [][]byte
	for _, s := range l {
		out = append(out, []byte(s))
	}
	return out
}

func same(a, b [][]byte) bool { return slices.EqualFunc(a, b, bytes.Equal) }

func checkScan(t *testing.T, b []byte, records [][]byte, n int) {
	t.Helper()
	if got, m := Scan(b); !same(got, records) || m != n {
		t.Fatalf("Scan of %d bytes (% x): %d records (% x), %d bytes, want %d (% x), %d", len(b), b[:min(len(b), 40)], len(got), got, m, len(records), records, n)
	}
}

// P9.1

func TestPut(t *testing.T) {
	for i, x := range []struct{ record, want string }{
		{"61", "0001" + "e06b2b6c" + "61"},
		{"00", "0001" + "73c63b0d" + "00"},
		{"616263", "0003" + "717f63c1" + "616263"},
		{"0001", "0002" + "f5639ac9" + "0001"},
		{"ffffffff", "0004" + "00f77602" + "ffffffff"},
	} {
		b, _ := hex.DecodeString(x.record)
		got, e := Put(b)
		if e != api.OK || hex.EncodeToString(got) != x.want {
			t.Errorf("%d: Put(%s) = %x, %v, want %s", i, x.record, got, e, x.want)
		}
	}
}

func TestPutOfEachLength(t *testing.T) {
	r := rand.New(rand.NewSource(1))
	for n := 1; n <= 4000; n++ {
		b := drawn(r, n)
		got, e := Put(b)
		if e != api.OK || !bytes.Equal(got, framed(n, b)) {
			t.Fatalf("Put of %d bytes: %d bytes, %v", n, len(got), e)
		}
		if len(got) != n+6 || int(got[0])*256+int(got[1]) != n || !bytes.Equal(got[6:], b) {
			t.Fatalf("Put of %d bytes: % x", n, got[:6])
		}
	}
}

func TestPutTellsErrors(t *testing.T) {
	for _, b := range [][]byte{nil, {}, []byte("abc")[1:1]} {
		if got, e := Put(b); got != nil || e != api.ErrArg {
			t.Errorf("Put(%q) = % x, %v", b, got, e)
		}
	}
	// At 65536 and behind it two bytes would tell a shorter one.
	for _, n := range []int{4001, 4002, 4006, 8000, 65535, 65536, 65537, 65536 + 4000, 1 << 20} {
		if got, e := Put(make([]byte, n)); got != nil || e != api.ErrLong {
			t.Errorf("Put of %d bytes: %d bytes, %v", n, len(got), e)
		}
	}
}

func TestAll(t *testing.T) {
	long := bytes.Repeat([]byte("x"), 4000)
	for i, l := range [][][]byte{
		nil,
		{},
		texts("a"),
		texts("one", "2", "three"),
		texts("a", "a", "a"),
		{{0}, {0, 0}, {255}, long, {1}, long},
	} {
		if got, e := All(l); e != api.OK || !bytes.Equal(got, framedAll(l)) {
			t.Errorf("%d: All = % x, %v", i, got, e)
		}
	}
	r := rand.New(rand.NewSource(2))
	for range 300 {
		l := drawnRecords(r, 12, 300)
		if got, e := All(l); e != api.OK || !bytes.Equal(got, framedAll(l)) {
			t.Fatalf("All(% x) = % x, %v", l, got, e)
		}
	}
}

func TestAllIsPutsOneBehindTheOther(t *testing.T) {
	l := texts("one", "2", "three", "four")
	var want []byte
	for _, b := range l {
		f, e := Put(b)
		if e != api.OK {
			t.Fatal(e)
		}
		want = append(want, f...)
	}
	if got, e := All(l); e != api.OK || !bytes.Equal(got, want) {
		t.Errorf("% x, %v, want % x", got, e, want)
	}
}

func TestAllTellsTheFirstError(t *testing.T) {
	long, longest := make([]byte, 4001), make([]byte, 4000)
	for i, x := range []struct {
		l    [][]byte
		want api.Errno
	}{
		{[][]byte{nil}, api.ErrArg},
		{[][]byte{{}}, api.ErrArg},
		{[][]byte{long}, api.ErrLong},
		{[][]byte{{1}, {}, long}, api.ErrArg},
		{[][]byte{{1}, long, {}}, api.ErrLong},
		{[][]byte{{}, long}, api.ErrArg},
		{[][]byte{long, nil}, api.ErrLong},
		{[][]byte{{1}, {2}, {3}, nil}, api.ErrArg},
		{[][]byte{longest, {2}, long, {4}}, api.ErrLong},
		{[][]byte{longest, longest}, api.OK},
	} {
		got, e := All(x.l)
		if e != x.want || e != api.OK && got != nil {
			t.Errorf("%d: %d bytes, %v, want %v", i, len(got), e, x.want)
		}
	}
}

func TestSize(t *testing.T) {
	for _, x := range []struct{ n, want int }{{1, 7}, {3, 9}, {255, 261}, {256, 262}, {3999, 4005}, {4000, 4006}, {0, 6}, {-1, 5}, {-6, 0}, {4001, 4007}, {1 << 40, 1<<40 + 6}, {math.MinInt, math.MinInt + 6}} {
		if got := Size(x.n); got != x.want {
			t.Errorf("Size(%d) = %d, want %d", x.n, got, x.want)
		}
	}
	for n := 1; n <= 4000; n++ {
		if f, e := Put(make([]byte, n)); e != api.OK || len(f) != Size(n) {
			t.Fatalf("Size(%d) = %d, %d bytes, %v", n, Size(n), len(f), e)
		}
	}
	Size(math.MaxInt)
}

// P9.2

func TestScan(t *testing.T) {
	one, two := framed(1, []byte("a")), framed(3, []byte("abc"))
	long := bytes.Repeat([]byte{0, 1}, 2000)
	for _, x := range []struct {
		b       []byte
		records [][]byte
		n       int
	}{
		{nil, nil, 0},
		{[]byte{}, nil, 0},
		{one, texts("a"), 7},
		{two, texts("abc"), 9},
		{slices.Concat(one, two), texts("a", "abc"), 16},
		{slices.Concat(two, two, one), texts("abc", "abc", "a"), 25},
		{slices.Concat(one, []byte{0}), texts("a"), 7},
		{slices.Concat(one, make([]byte, 50)), texts("a"), 7},
		{slices.Concat(one, []byte{0}, two), texts("a"), 7},
		{slices.Concat([]byte{0}, one), nil, 0},
		{slices.Concat(one, one[:6], two), texts("a"), 7},
		{slices.Concat(one, two[:8]), texts("a"), 7},
		{framed(4000, long), [][]byte{long}, 4006},
		{slices.Concat(framed(4000, long), two), [][]byte{long, []byte("abc")}, 4015},
		{framed(6, one[:6]), [][]byte{one[:6]}, 12},
		{framed(7, one), [][]byte{one}, 13},
	} {
		checkScan(t, x.b, x.records, x.n)
	}
}

func TestScanOfNoFrame(t *testing.T) {
	behind := framed(3, []byte("abc"))
	flat := []byte("abc")
	for i, b := range [][]byte{
		make([]byte, 6),
		make([]byte, 7),
		make([]byte, 50),
		bytes.Repeat([]byte{255}, 5000),
		bytes.Repeat([]byte{255}, 1<<17),
		framed(0, nil),
		framed(4001, make([]byte, 4001)),
		framed(4002, make([]byte, 4002)),
		framed(65535, make([]byte, 65535)),
		framed(2, flat),
		framed(4, flat),
		framed(3<<8, flat),
		summed(crc32.Checksum(flat, castagnoli)),
		summed(crc32.ChecksumIEEE([]byte("\x00\x03abc"))),
		summed(^crc32.Checksum([]byte("\x00\x03abc"), castagnoli)),
		{0, 3, behind[5], behind[4], behind[3], behind[2], 'a', 'b', 'c'},
		{3, 0, behind[2], behind[3], behind[4], behind[5], 'a', 'b', 'c'},
	} {
		got, n := Scan(b)
		if len(got) != 0 || n != 0 {
			t.Errorf("%d: %d records, %d bytes", i, len(got), n)
		}
		checkScan(t, slices.Concat(b, behind), nil, 0)
		checkScan(t, slices.Concat(behind, b), texts("abc"), 9)
	}
	checkScan(t, summed(crc32.Checksum([]byte("\x00\x03abc"), castagnoli)), texts("abc"), 9)
}

// summed is a frame of abc with another sum.
func summed(sum uint32) []byte {
	return []byte{0, 3, byte(sum >> 24), byte(sum >> 16), byte(sum >> 8), byte(sum), 'a', 'b', 'c'}
}

func TestScanOfDrawnBytes(t *testing.T) {
	r := rand.New(rand.NewSource(3))
	for range 3000 {
		b := framedAll(drawnRecords(r, 6, 30))
		for range r.Intn(3) {
			switch at := r.Intn(len(b) + 1); r.Intn(4) {
			case 0:
				b = b[:at]
			case 1:
				b = slices.Insert(b, at, drawn(r, r.Intn(8))...)
			case 2:
				b = slices.Insert(b, at, framed(3, []byte("abc"))...)
			case 3:
				b = slices.Delete(b, at, min(at+r.Intn(8), len(b)))
			}
		}
		records, n := scanned(b)
		checkScan(t, b, records, n)
	}
}

func TestScanOfShortBytes(t *testing.T) {
	checked := 0
	for _, length := range []int{0, 1, 2, 3} {
		f := framed(length, []byte("abc")[:length])
		for cut := range len(f) + 1 {
			for c := range 256 {
				b := append(slices.Clone(f[:cut]), byte(c))
				records, n := scanned(b)
				checkScan(t, b, records, n)
				checked += len(records)
			}
		}
	}
	if checked == 0 {
		t.Error("no record was told")
	}
}

// P9.3

func TestWhatWasPutIsTold(t *testing.T) {
	r := rand.New(rand.NewSource(4))
	for i := range 500 {
		l := drawnRecords(r, 10, []int{1, 8, 300, 4000}[i%4])
		b, e := All(l)
		if e != api.OK {
			t.Fatal(e)
		}
		checkScan(t, b, l, len(b))
	}
	for n := 1; n <= 4000; n++ {
		record := drawn(r, n)
		b, e := Put(record)
		if e != api.OK {
			t.Fatal(e)
		}
		checkScan(t, b, [][]byte{record}, n+6)
	}
}

func TestOfABeginningWholeOnesAreTold(t *testing.T) {
	r := rand.New(rand.NewSource(5))
	for range 40 {
		l := drawnRecords(r, 8, 40)
		b, e := All(l)
		if e != api.OK {
			t.Fatal(e)
		}
		whole, end := 0, 0
		for cut := range len(b) + 1 {
			if whole < len(l) && cut == end+Size(len(l[whole])) {
				end = cut
				whole++
			}
			checkScan(t, b[:cut], l[:whole], end)
		}
		if whole != len(l) {
			t.Fatalf("%d of %d", whole, len(l))
		}
	}
}

func TestOneGoesOnBehindWhatIsTold(t *testing.T) {
	r := rand.New(rand.NewSource(6))
	for range 500 {
		a, b := drawnRecords(r, 5, 40), drawnRecords(r, 5, 40)
		first, _ := All(a)
		second, _ := All(b)
		spoilt := slices.Concat(first, drawn(r, r.Intn(12)))
		_, n := Scan(spoilt)
		if n != len(first) {
			t.Fatalf("%d bytes of % x, want %d", n, spoilt, len(first))
		}
		checkScan(t, slices.Concat(spoilt[:n], second), slices.Concat(a, b), n+len(second))
		checkScan(t, slices.Concat(first, second)[n:], b, len(second))
	}
}

// changed turns bits over that lie within 32 side by side, in the order in which they go in.
func changed(b []byte, at int, by uint32) []byte {
	c := slices.Clone(b)
	for i := range 32 {
		if by>>i&1 == 1 {
			c[(at+i)/8] ^= 1 << ((at + i) % 8)
		}
	}
	return c
}

func TestChangedRecordsAreNotTold(t *testing.T) {
	r := rand.New(rand.NewSource(7))
	ahead := texts("one", "2")
	b := framedAll(ahead)
	for _, length := range []int{1, 2, 4, 5, 40, 4000} {
		record := drawn(r, length)
		whole := slices.Concat(b, framed(length, record), framed(3, []byte("abc")))
		checkScan(t, whole, append(slices.Clone(ahead), record, []byte("abc")), len(whole))
		for range 300 {
			at := r.Intn(length * 8)
			side := min(length*8-at, 1+r.Intn(32))
			by := r.Uint32()>>(32-side) | 1
			checkScan(t, changed(whole, (len(b)+6)*8+at, by), ahead, len(b))
		}
	}
}

func TestEachBitOfAFrameIsTold(t *testing.T) {
	r := rand.New(rand.NewSource(8))
	for range 20 {
		l := drawnRecords(r, 6, 30)
		b := framedAll(l)
		at := 0
		for i, record := range l {
			for bit := at * 8; bit < (at+6+len(record))*8; bit++ {
				checkScan(t, changed(b, bit, 1), l[:i], at)
			}
			at += 6 + len(record)
		}
	}
}

// Ways

func TestFramesEndWhereTheLoopDoes(t *testing.T) {
	l := frames(framedAll(texts("one", "2", "three")))
	for most := range 5 {
		got := 0
		for range l {
			got++
			if got >= most {
				break
			}
		}
		if want := min(max(most, 1), 3); got != want {
			t.Errorf("%d frames, want %d", got, want)
		}
	}
}

// R3, R5, R6

func TestWhatIsHandedInIsNotChanged(t *testing.T) {
	room := []byte("abc......")
	b := room[:3]
	f, _ := Put(b)
	all, _ := All([][]byte{b, room[1:2], b})
	if string(room) != "abc......" {
		t.Errorf("%q", room)
	}
	clear(f)
	clear(all)
	if string(room) != "abc......" {
		t.Errorf("%q", room)
	}
	f, _ = Put(b)
	kept := slices.Clone(f)
	clear(room)
	if !bytes.Equal(f, kept) {
		t.Errorf("% x, want % x", f, kept)
	}
}

func TestRecordsAreMemoryOfTheirOwn(t *testing.T) {
	b := slices.Concat(framedAll(texts("one", "2", "three")), []byte("rest"))
	kept := slices.Clone(b)
	l, _ := Scan(b)
	for i := range l {
		clear(l[i])
		l[i] = append(l[i], bytes.Repeat([]byte{9}, 40)...)
	}
	if !bytes.Equal(b, kept) {
		t.Errorf("% x, want % x", b, kept)
	}
	checkScan(t, b, texts("one", "2", "three"), 27)
	l, _ = Scan(b)
	_ = append(l[0][:cap(l[0])], "xxxxxxxxxx"...)
	clear(b)
	clear(l[0])
	if !same(l[1:], texts("2", "three")) {
		t.Errorf("%q", l)
	}
}

func TestAnswersAreTheSameAgain(t *testing.T) {
	b := slices.Concat(framedAll(texts("one", "2")), []byte("rest"))
	l, n := Scan(b)
	again, m := Scan(b)
	if !reflect.DeepEqual(l, again) || n != m {
		t.Errorf("%q, %d and %q, %d", l, n, again, m)
	}
}
