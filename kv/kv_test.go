package kv

import (
	"bytes"
	"hash/crc32"
	"maps"
	"math/rand"
	"slices"
	"strings"
	"testing"

	"matricula/api"
	"matricula/disk"
	"matricula/wal"
)

func put(key, value string) api.Change { return api.Change{Key: key, Value: value} }

func drop(key string) api.Change { return api.Change{Key: key, Gone: true} }

func changes(l ...api.Change) []api.Change { return l }

func text(n int) string { return strings.Repeat("v", n) }

// sized is a put at a key whose bytes are so many.
func sized(key string, n int) api.Change { return put(key, text(n-3-len(key))) }

// documented are changes as bytes, as the document's words have them.
func documented(l []api.Change) []byte {
	var out []byte
	for _, c := range l {
		out = append(out, byte(len(c.Key)))
		out = append(out, []byte(c.Key)...)
		if c.Gone {
			out = append(out, 255, 255)
			continue
		}
		out = append(out, byte(len(c.Value)/256), byte(len(c.Value)%256))
		out = append(out, []byte(c.Value)...)
	}
	return out
}

func canBe(c api.Change) bool {
	return len(c.Key) >= 1 && len(c.Key) <= 64 && (c.Gone && len(c.Value) == 0 || !c.Gone && len(c.Value) <= 300)
}

// left is what changes leave of some values.
func left(was map[string]string, l []api.Change) map[string]string {
	now := maps.Clone(was)
	for _, c := range l {
		delete(now, c.Key)
		if !c.Gone {
			now[c.Key] = c.Value
		}
	}
	return now
}

// documentedSnapshot takes as many changes for each record as go into one, beginning with the first that is left over.
func documentedSnapshot(values map[string]string) [][]byte {
	var l []api.Change
	for _, key := range slices.Sorted(maps.Keys(values)) {
		l = append(l, put(key, values[key]))
	}
	var records [][]byte
	for len(l) > 0 {
		n := 1
		for n < len(l) && len(documented(l[:n+1])) <= 4000 {
			n++
		}
		records = append(records, documented(l[:n]))
		l = l[n:]
	}
	return records
}

func opened(t *testing.T, d *disk.Disk) *Store {
	t.Helper()
	s, e := Open(d)
	if e != api.OK || s == nil {
		t.Fatalf("Open = %v, %v", s, e)
	}
	return s
}

func openedLog(t *testing.T, d *disk.Disk) *wal.Log {
	t.Helper()
	l, e := wal.Open(d)
	if e != api.OK {
		t.Fatal(e)
	}
	return l
}

// diskOf is one on which a log has these records.
func diskOf(t *testing.T, blocks int, records ...[]byte) *disk.Disk {
	t.Helper()
	d := disk.New(blocks)
	log := openedLog(t, d)
	for i, b := range records {
		if e := log.Append(b); e != api.OK {
			t.Fatal(i, e)
		}
	}
	return d
}

func committed(t *testing.T, s *Store, l ...api.Change) {
	t.Helper()
	if e := s.Commit(l); e != api.OK {
		t.Fatalf("Commit of %d changes = %v", len(l), e)
	}
}

func compacted(t *testing.T, s *Store) {
	t.Helper()
	if e := s.Compact(); e != api.OK {
		t.Fatal("Compact =", e)
	}
}

func is(s *Store, want map[string]string) bool {
	var l []api.Pair
	for _, key := range slices.Sorted(maps.Keys(want)) {
		l = append(l, api.Pair{Name: key, Value: want[key]})
		if v, ok := s.Get(key); v != want[key] || !ok {
			return false
		}
	}
	return slices.Equal(s.All(""), l)
}

func checkStore(t *testing.T, s *Store, want map[string]string) {
	t.Helper()
	if !is(s, want) {
		t.Fatalf("there is %.500q, want %.500q", s.All(""), want)
	}
}

func checkRefused(t *testing.T, d *disk.Disk, want api.Errno) {
	t.Helper()
	if s, e := Open(d); s != nil || e != want {
		t.Fatalf("Open = %v, %v, want %v", s, e, want)
	}
}

func checkRecords(t *testing.T, d *disk.Disk, want ...[]byte) {
	t.Helper()
	if got := openedLog(t, d).Records(); !slices.EqualFunc(got, want, bytes.Equal) {
		t.Fatalf("the log has %.500q, want %.500q", got, want)
	}
}

// checkNoCall makes sure that a disk whose plan was one call that fails was not asked for any.
func checkNoCall(t *testing.T, d *disk.Disk) {
	t.Helper()
	if d.Staged() != 0 || d.Sync() != api.ErrDisk || d.Sync() != api.OK {
		t.Fatal("a call of the disk was made")
	}
}

func checkSameDisks(t *testing.T, got, want *disk.Disk) {
	t.Helper()
	if got.On() != want.On() || got.Staged() != want.Staged() || !bytes.Equal(got.Bytes(), want.Bytes()) {
		t.Fatalf("%v, %d staged, kept %q; want %v, %d, %q", got.On(), got.Staged(), got.Bytes(), want.On(), want.Staged(), want.Bytes())
	}
	for i := range want.Len() {
		if !bytes.Equal(got.Read(i), want.Read(i)) {
			t.Fatalf("block %d is %q, want %q", i, got.Read(i), want.Read(i))
		}
	}
}

// P11.1

func TestEncode(t *testing.T) {
	for i, x := range []struct {
		l    []api.Change
		want string
	}{
		{nil, ""},
		{changes(put("a", "xy")), "\x01a\x00\x02xy"},
		{changes(put("a", "")), "\x01a\x00\x00"},
		{changes(drop("a")), "\x01a\xff\xff"},
		{changes(put("a", "xy"), drop("b"), put("c", "")), "\x01a\x00\x02xy\x01b\xff\xff\x01c\x00\x00"},
		{changes(put("b", "1"), put("a", "2"), put("b", "1")), "\x01b\x00\x011\x01a\x00\x012\x01b\x00\x011"},
		{changes(put("TGT-1", "\x00\xff")), "\x05TGT-1\x00\x02\x00\xff"},
		{changes(put("\x00", "\x00")), "\x01\x00\x00\x01\x00"},
		{changes(put("é", "€")), "\x02é\x00\x03€"},
		{changes(put("k", text(255))), "\x01k\x00\xff" + text(255)},
		{changes(put("k", text(256))), "\x01k\x01\x00" + text(256)},
		{changes(put(text(64), text(300)), drop(text(64))), "\x40" + text(64) + "\x01\x2c" + text(300) + "\x40" + text(64) + "\xff\xff"},
	} {
		b, e := Encode(x.l)
		if e != api.OK || string(b) != x.want {
			t.Errorf("%d: %q, %v, want %q", i, b, e, x.want)
		}
		l, e := Decode([]byte(x.want))
		if e != api.OK || !slices.Equal(l, x.l) {
			t.Errorf("%d: %v, %v, want %v", i, l, e, x.l)
		}
	}
}

func TestWhichChangesCanBe(t *testing.T) {
	for _, k := range []int{0, 1, 2, 63, 64, 65, 66, 255, 256, 257, 320} {
		for _, n := range []int{0, 1, 2, 255, 256, 299, 300, 301, 302, 511, 65535, 65536, 65537} {
			for _, gone := range []bool{false, true} {
				c := api.Change{Key: text(k), Value: text(n), Gone: gone}
				for _, l := range [][]api.Change{{c}, {put("a", "1"), c}, {c, put("a", "1")}, {drop("a"), c, drop("b")}} {
					b, e := Encode(l)
					if !canBe(c) && (e != api.ErrArg || len(b) != 0) || canBe(c) && (e != api.OK || !bytes.Equal(b, documented(l))) {
						t.Errorf("%d bytes at %d bytes, gone %v: %.50q, %v", n, k, gone, b, e)
					}
					if l, e := Decode(documented(l)); !canBe(c) && n != 65535 && k < 256 && !gone && (e != api.ErrKind || len(l) != 0) {
						t.Errorf("%d bytes at %d bytes is read: %v, %v", n, k, l, e)
					}
				}
			}
		}
	}
}

// many are changes whose bytes are 13 times 304, and n more.
func many(n int) []api.Change {
	var l []api.Change
	for i := range 13 {
		l = append(l, sized(string(rune('a'+i)), 304))
	}
	return append(l, sized("z", n))
}

func TestEncodeUpToMaxRecord(t *testing.T) {
	for n := 4; n <= 100; n++ {
		l := many(n)
		b, e := Encode(l)
		if n <= 48 && (e != api.OK || len(b) != 3952+n || !bytes.Equal(b, documented(l))) || n > 48 && (e != api.ErrLong || len(b) != 0) {
			t.Fatalf("%d: %d bytes, %v", 3952+n, len(b), e)
		}
		m, e := Decode(documented(l))
		if n <= 48 && (e != api.OK || !slices.Equal(m, l)) || n > 48 && (e != api.ErrKind || len(m) != 0) {
			t.Fatalf("%d: %d changes, %v", 3952+n, len(m), e)
		}
	}
	// What is gone counts, too.
	var l []api.Change
	for range 1000 {
		l = append(l, drop("k"))
	}
	if b, e := Encode(l); e != api.OK || len(b) != 4000 {
		t.Error(len(b), e)
	}
	if b, e := Encode(append(l, drop("k"))); e != api.ErrLong || len(b) != 0 {
		t.Error(len(b), e)
	}
	if m, e := Decode(documented(l)); e != api.OK || !slices.Equal(m, l) {
		t.Error(len(m), e)
	}
	if m, e := Decode(documented(append(l, drop("k")))); e != api.ErrKind || len(m) != 0 {
		t.Error(len(m), e)
	}
}

func TestErrArgGoesAheadOfErrLong(t *testing.T) {
	for _, wrong := range changes(put("", ""), drop(""), put(text(65), ""), put("a", text(301)), api.Change{Key: "a", Value: "1", Gone: true}) {
		long := many(304)
		for i := range len(long) + 1 {
			if b, e := Encode(slices.Insert(slices.Clone(long), i, wrong)); e != api.ErrArg || len(b) != 0 {
				t.Errorf("%d, %v: %d bytes, %v", i, wrong, len(b), e)
			}
		}
	}
	if b, e := Encode(changes(put("a", text(5000)))); e != api.ErrArg || len(b) != 0 {
		t.Error(len(b), e)
	}
}

func TestDecodeRefuses(t *testing.T) {
	for i, s := range []string{
		"\x00", "\x00\x00\x00", "\x00\xff\xff", "\x00a\x00\x00",
		"\x01", "\x01a", "\x01a\x00", "\x01a\xff", "\x01a\x00\x01", "\x01a\x00\x02x", "\x01a\x01\x00",
		"\x01a\x00\x00x", "\x01a\x00\x00\x00", "\x01a\xff\xff\x00", "\x01a\xff\xffx", "\x01a\x00\x02xyz",
		"\x02a\x00\x00", "\x02a\xff\xff", "\x40a\x00\x00", "\xff", "\xff\xff", "\xffa\x00\x00",
		"\x40" + text(63) + "\x00\x00", "\x40" + text(64) + "\x00",
		"\x41" + text(65) + "\x00\x00", "\x41" + text(65) + "\xff\xff", "\xff" + text(255) + "\x00\x00",
		"\x01a\x01\x2d" + text(301), "\x01a\x02\x00" + text(512), "\x01a\xff\x00" + text(300), "\x01a\xff\xfe" + text(300), "\x01a\x01\x2c" + text(299),
		"\x01a\xff\xfe", "\x01a\xfe\xff", "\x01a\x02\x00x",
		"\x01a\x00\x02xy\x00", "\x01a\x00\x02xy\x01b\xff", "\x01b\xff\xff\x01", "\x00\x00\x00\x01a\x00\x00",
	} {
		if l, e := Decode([]byte(s)); e != api.ErrKind || len(l) != 0 {
			t.Errorf("%d: %.80q is read: %v, %v", i, s, l, e)
		}
	}
	// Bytes that are many more than a record has are none, whatever they tell.
	for _, b := range [][]byte{make([]byte, 4001), bytes.Repeat([]byte("\x01a\x00\x00"), 1001), bytes.Repeat([]byte("\x01a\xff\xff"), 100000)} {
		if l, e := Decode(b); e != api.ErrKind || len(l) != 0 {
			t.Error(len(b), len(l), e)
		}
	}
	for _, b := range [][]byte{nil, {}} {
		if l, e := Decode(b); e != api.OK || len(l) != 0 {
			t.Error(l, e)
		}
	}
}

// sought are changes that are b as bytes, found by trying.
func sought(b []byte) ([]api.Change, bool) {
	var l []api.Change
	for len(b) > 0 {
		c, ok := soughtFirst(b)
		if !ok {
			return nil, false
		}
		l = append(l, c)
		b = b[len(documented(changes(c))):]
	}
	return l, true
}

func soughtFirst(b []byte) (api.Change, bool) {
	for k := 1; k <= 64 && k < len(b); k++ {
		if int(b[0]) != k {
			continue
		}
		guesses := changes(drop(string(b[1 : 1+k])))
		for n := 0; n <= 300 && 3+k+n <= len(b); n++ {
			guesses = append(guesses, put(string(b[1:1+k]), string(b[3+k:3+k+n])))
		}
		for _, c := range guesses {
			if bytes.HasPrefix(b, documented(changes(c))) {
				return c, true
			}
		}
	}
	return api.Change{}, false
}

func drawnText(r *rand.Rand, letters string, n int) string {
	b := make([]byte, n)
	for i := range b {
		b[i] = letters[r.Intn(len(letters))]
	}
	return string(b)
}

func drawnLength(r *rand.Rand, most int) int {
	switch r.Intn(8) {
	case 0:
		return most
	case 1:
		return r.Intn(most + 1)
	case 2:
		return 0
	}
	return r.Intn(min(most, 6) + 1)
}

func drawnChanges(r *rand.Rand, most int) []api.Change {
	var l []api.Change
	for range r.Intn(most + 1) {
		key := drawnText(r, "ab\xff\x00", max(1, drawnLength(r, 64)))
		if r.Intn(3) > 0 {
			key = key[:1]
		}
		if r.Intn(3) == 0 {
			l = append(l, drop(key))
		} else {
			l = append(l, put(key, drawnText(r, "xyz\x00\x01\xff", drawnLength(r, 300))))
		}
	}
	return l
}

func TestWhatIsEncodedIsRead(t *testing.T) {
	r := rand.New(rand.NewSource(1))
	for range 5000 {
		l := drawnChanges(r, 8)
		b, e := Encode(l)
		if e != api.OK || !bytes.Equal(b, documented(l)) {
			t.Fatalf("%v: %q, %v", l, b, e)
		}
		m, e := Decode(b)
		if e != api.OK || !slices.Equal(m, l) {
			t.Fatalf("%v is read as %v, %v", l, m, e)
		}
	}
}

func TestDecodeOfAnyBytes(t *testing.T) {
	r := rand.New(rand.NewSource(2))
	read, refused := 0, 0
	check := func(b []byte) {
		want, ok := sought(b)
		l, e := Decode(b)
		if ok && (e != api.OK || !slices.Equal(l, want)) || !ok && (e != api.ErrKind || len(l) != 0) {
			t.Fatalf("%q is read as %v, %v, want %v, %v", b, l, e, want, ok)
		}
		if ok {
			read++
		} else {
			refused++
		}
	}
	for range 1500 {
		b := documented(drawnChanges(r, 3))
		check(b[:r.Intn(len(b)+1)])
		check(append(slices.Clone(b), byte(r.Intn(3))))
		check([]byte(drawnText(r, "\x00\x01\x02\xff", r.Intn(12))))
		for range min(10, len(b)) {
			c := slices.Clone(b)
			c[r.Intn(len(c))] = "\x00\x01\x02\x03\x40\x41\xfe\xffab"[r.Intn(10)]
			check(c)
		}
	}
	if read < 1000 || refused < 1000 {
		t.Error(read, refused)
	}
}

// P11.2

func TestOpenTellsTheLogsErrors(t *testing.T) {
	for n := range 4 {
		checkRefused(t, disk.New(n), api.ErrArg)
	}
	checkRefused(t, disk.Open(bytes.Repeat([]byte{1}, 3*32)), api.ErrArg)
	b := diskOf(t, 8, documented(changes(put("a", "1"))), documented(changes(put("b", "2")))).Bytes()
	for _, at := range []int{64, 69, 70, 74, 75, 76, 84} {
		c := slices.Clone(b)
		c[at] ^= 1
		checkRefused(t, disk.Open(c), api.ErrSum)
	}
	// A record that is no changes is not told ahead of one that is spoilt.
	c := diskOf(t, 8, []byte("\x00"), documented(changes(put("b", "2")))).Bytes()
	c[64+7+6] ^= 1
	checkRefused(t, disk.Open(c), api.ErrSum)
}

func TestOpenTellsErrKind(t *testing.T) {
	good, other := documented(changes(put("a", "1"), drop("b"))), documented(changes(put("c", "")))
	for _, s := range []string{"\x00", "\x01", "\x01a\x00", "\x01a\x00\x02x", "\x01a\x00\x00x", "\x41" + text(65) + "\x00\x00", "\x01a\x01\x2d" + text(301), "\x00\x00\x00"} {
		bad := []byte(s)
		for _, records := range [][][]byte{{bad}, {bad, good}, {good, bad}, {good, bad, other}, {good, other, bad}} {
			checkRefused(t, diskOf(t, 64, records...), api.ErrKind)
		}
		// One that was replaced is no record any more.
		d := diskOf(t, 64, bad)
		if e := openedLog(t, d).Replace([][]byte{good}); e != api.OK {
			t.Fatal(e)
		}
		checkStore(t, opened(t, d), map[string]string{"a": "1"})
	}
	// Changes that begin in one record and end in the next are none.
	b := documented(changes(put("a", "123")))
	for i := 1; i < len(b); i++ {
		checkRefused(t, diskOf(t, 8, b[:i], b[i:]), api.ErrKind)
	}
}

func TestOpenFindsWhatAllChangesLeave(t *testing.T) {
	for i, x := range []struct {
		records [][]api.Change
		want    map[string]string
	}{
		{nil, nil},
		{[][]api.Change{{put("a", "1")}}, map[string]string{"a": "1"}},
		{[][]api.Change{{drop("a")}}, nil},
		{[][]api.Change{{put("a", "1"), drop("a")}}, nil},
		{[][]api.Change{{drop("a"), put("a", "1")}}, map[string]string{"a": "1"}},
		{[][]api.Change{{put("a", "1"), put("a", "2"), put("b", "")}}, map[string]string{"a": "2", "b": ""}},
		{[][]api.Change{{put("a", "1")}, {put("b", "2")}, {put("a", "3")}}, map[string]string{"a": "3", "b": "2"}},
		{[][]api.Change{{put("a", "1"), put("b", "2")}, {drop("a")}, {drop("a"), drop("z")}}, map[string]string{"b": "2"}},
		{[][]api.Change{{put("a", "1")}, {drop("a")}, {put("a", "")}}, map[string]string{"a": ""}},
		{[][]api.Change{{put("a", "1")}, {drop("A"), drop("aa"), drop("\x00")}}, map[string]string{"a": "1"}},
		{[][]api.Change{many(48), {drop("a"), drop("c")}, {put("z", "new"), drop("b")}}, left(map[string]string{}, append(many(48), drop("a"), drop("b"), drop("c"), put("z", "new")))},
	} {
		var records [][]byte
		used := 0
		for _, l := range x.records {
			records = append(records, documented(l))
			used += 6 + len(documented(l))
		}
		d := diskOf(t, 512, records...)
		s := opened(t, d)
		if !is(s, x.want) || s.Room() != 8160-used {
			t.Errorf("%d: %q, %d", i, s.All(""), s.Room())
		}
	}
}

func TestOpenReadsAlone(t *testing.T) {
	d := diskOf(t, 8, documented(changes(put("a", "1"))))
	b := d.Bytes()
	d.Faults([]bool{true})
	checkStore(t, opened(t, d), map[string]string{"a": "1"})
	checkRefused(t, disk.New(3), api.ErrArg)
	if !bytes.Equal(d.Bytes(), b) {
		t.Error("it was changed")
	}
	checkNoCall(t, d)
	bad := diskOf(t, 8, []byte("\x00"))
	bad.Faults([]bool{true})
	checkRefused(t, bad, api.ErrKind)
	checkNoCall(t, bad)
	// A disk that is off is read as well.
	d.Stop(0)
	checkStore(t, opened(t, d), map[string]string{"a": "1"})
}

func TestGet(t *testing.T) {
	s := opened(t, disk.New(64))
	for _, key := range []string{"", "a", text(64), text(65)} {
		if v, ok := s.Get(key); v != "" || ok {
			t.Errorf("%q, %v at %q", v, ok, key)
		}
	}
	committed(t, s, put("a", "1"), put("b", ""), put("ab", "é\x00"), put(text(64), text(300)), put("\xff\x00", "\xff"))
	for _, x := range []struct {
		key, want string
		ok        bool
	}{
		{"a", "1", true}, {"b", "", true}, {"ab", "é\x00", true}, {text(64), text(300), true}, {"\xff\x00", "\xff", true},
		{"", "", false}, {"A", "", false}, {"aa", "", false}, {"abc", "", false}, {"\xff", "", false}, {"\xef\xbf\xbd\x00", "", false}, {text(63), "", false}, {text(65), "", false}, {"a ", "", false},
	} {
		if v, ok := s.Get(x.key); v != x.want || ok != x.ok {
			t.Errorf("%.20q, %v at %.20q", v, ok, x.key)
		}
	}
}

func TestAll(t *testing.T) {
	s := opened(t, disk.New(64))
	for _, prefix := range []string{"", "a"} {
		if l := s.All(prefix); len(l) != 0 {
			t.Error(l)
		}
	}
	rising := []string{"\x00", "A", "B", "TGT-1", "TGT-10", "TGT-2", "a", "a\x00", "aa", "ab", "b", "ba", "note:ST-1", "note:ST-2", "notes", "z", "é", "\xe9", "\xff", "\xff\xff"}
	var l []api.Change
	for i := range rising {
		key := rising[(i*7+3)%len(rising)]
		l = append(l, put(key, "of "+key))
	}
	committed(t, s, l...)
	for _, prefix := range []string{"", "\x00", "A", "TGT-", "TGT-1", "TGT-10", "TGT-100", "a", "a\x00", "aa", "aaa", "b", "c", "note:", "note:ST-", "note", "N", "\xc3", "é", "\xe9", "\xff", "\xff\xff", "\xff\xff\xff", text(65), text(5000)} {
		var want []api.Pair
		for _, key := range rising {
			if strings.HasPrefix(key, prefix) {
				want = append(want, api.Pair{Name: key, Value: "of " + key})
			}
		}
		if got := s.All(prefix); !slices.Equal(got, want) {
			t.Errorf("%.20q: %q, want %q", prefix, got, want)
		}
	}
	for range 20 {
		if !slices.Equal(s.All(""), s.All("")) {
			t.Fatal("it hangs on chance")
		}
	}
	committed(t, s, drop("a"), drop("\xff"))
	if got := s.All("a"); len(got) != 3 || got[0].Name != "a\x00" {
		t.Errorf("%q", got)
	}
	if got := s.All("\xff"); len(got) != 1 || got[0].Name != "\xff\xff" {
		t.Errorf("%q", got)
	}
}

// P11.3

func TestCommit(t *testing.T) {
	d := disk.New(40)
	s := opened(t, d)
	want := map[string]string{}
	used := 0
	for i, x := range []struct {
		l []api.Change
		e api.Errno
	}{
		{changes(put("b", "1"), put("a", "2"), put("b", "3")), api.OK},
		{nil, api.OK},
		{changes(), api.OK},
		{changes(drop("a"), put("ab", ""), drop("z")), api.OK},
		{changes(drop("z")), api.OK},
		{changes(put("c", ""), put("", "")), api.ErrArg},
		{changes(put("c", "x"), api.Change{Key: "b", Value: "x", Gone: true}), api.ErrArg},
		{changes(drop("b"), put("c", text(301))), api.ErrArg},
		{changes(drop("b"), drop(text(65))), api.ErrArg},
		{many(49), api.ErrLong},
		{append(many(49), drop("")), api.ErrArg},
		{many(48), api.ErrFull},
		{changes(put("b", "4")), api.OK},
		{changes(put("a", "1"), drop("a"), put("a", "2"), drop("a")), api.OK},
		{changes(put("x", text(300))), api.OK},
		{changes(drop("x"), put("x", "")), api.OK},
	} {
		if e := s.Commit(x.l); e != x.e {
			t.Fatal(i, e)
		}
		if x.e == api.OK {
			want = left(want, x.l)
			if len(x.l) > 0 {
				used += 6 + len(documented(x.l))
			}
		}
		checkStore(t, s, want)
		checkStore(t, opened(t, d), want)
		if s.Room() != 19*32-used {
			t.Fatal(i, s.Room(), used)
		}
	}
}

func TestNothingIsDone(t *testing.T) {
	d := disk.New(8)
	s := opened(t, d)
	committed(t, s, put("a", "1"))
	was, room := d.Bytes(), s.Room()
	d.Faults([]bool{true})
	for i, x := range []struct {
		l []api.Change
		e api.Errno
	}{
		{nil, api.OK}, {changes(), api.OK}, {changes(put("", "")), api.ErrArg}, {changes(put("a", "2"), drop("")), api.ErrArg},
		{many(49), api.ErrLong}, {append(many(49), put("", "")), api.ErrArg}, {many(48), api.ErrFull}, {changes(sized("b", 86)), api.ErrFull},
	} {
		if e := s.Commit(x.l); e != x.e || s.Room() != room {
			t.Fatal(i, e, s.Room())
		}
		checkStore(t, s, map[string]string{"a": "1"})
	}
	if !bytes.Equal(d.Bytes(), was) {
		t.Error("it was changed")
	}
	checkNoCall(t, d)
	d.Stop(0)
	if e := s.Commit(nil); e != api.OK {
		t.Error(e)
	}
	if e := s.Commit(changes(drop("a"))); e != api.ErrDisk {
		t.Error(e)
	}
	if e := s.Commit(changes(drop(""))); e != api.ErrArg {
		t.Error(e)
	}
	if e := s.Commit(many(49)); e != api.ErrLong {
		t.Error(e)
	}
	if e := s.Commit(many(48)); e != api.ErrFull {
		t.Error(e)
	}
	if e := s.Compact(); e != api.ErrDisk {
		t.Error(e)
	}
	checkStore(t, s, map[string]string{"a": "1"})
}

func TestCommitAppendsWhileThereIsRoom(t *testing.T) {
	one, two, three := changes(put("a", "1")), changes(sized("a", 20)), changes(drop("b"), sized("c", 43))
	d := disk.New(8)
	s := opened(t, d)
	committed(t, s, one...)
	committed(t, s, two...)
	// It takes all the room that there is.
	if s.Room() != 96-6-5-6-20 {
		t.Fatal(s.Room())
	}
	three[1] = sized("c", s.Room()-6-4)
	committed(t, s, three...)
	if s.Room() != 0 {
		t.Fatal(s.Room())
	}
	checkRecords(t, d, documented(one), documented(two), documented(three))
	// One byte more, and the log is written anew.
	d = disk.New(8)
	s = opened(t, d)
	committed(t, s, one...)
	committed(t, s, two...)
	three[1] = sized("c", s.Room()-6-4+1)
	committed(t, s, three...)
	checkRecords(t, d, documented(changes(two[0], three[1])))
	if want := 96 - 6 - 20 - len(documented(three[1:])); s.Room() != want {
		t.Fatal(s.Room(), want)
	}
}

func TestAFullLogIsWrittenAnew(t *testing.T) {
	// The areas have 64 bytes.
	for i, x := range []struct {
		ahead [][]api.Change
		l     []api.Change
		e     api.Errno
		want  []api.Change
	}{
		{[][]api.Change{{put("a", text(40))}}, changes(put("b", text(12))), api.ErrFull, changes(put("a", text(40)))},
		{[][]api.Change{{put("a", text(40))}}, changes(put("b", text(5))), api.OK, changes(put("a", text(40)), put("b", text(5)))},
		{[][]api.Change{{put("a", text(40))}}, changes(put("b", text(11))), api.ErrFull, changes(put("a", text(40)))},
		{[][]api.Change{{put("a", text(40))}}, changes(put("b", text(10))), api.OK, changes(put("a", text(40)), put("b", text(10)))},
		{[][]api.Change{{put("a", text(40))}}, changes(put("a", text(54))), api.OK, changes(put("a", text(54)))},
		{[][]api.Change{{put("a", text(40))}}, changes(put("a", text(55))), api.ErrFull, changes(put("a", text(40)))},
		{[][]api.Change{{put("a", text(40))}}, changes(put("b", text(50)), drop("a")), api.OK, changes(put("b", text(50)))},
		{[][]api.Change{{put("a", text(40))}}, changes(drop("a"), put("b", text(50))), api.OK, changes(put("b", text(50)))},
		{[][]api.Change{{put("a", text(52))}}, changes(drop("a")), api.OK, nil},
		{[][]api.Change{{put("a", text(54))}}, changes(drop("b")), api.OK, changes(put("a", text(54)))},
		{[][]api.Change{{put("a", text(40))}}, changes(put("b", text(100)), drop("b")), api.OK, changes(put("a", text(40)))},
		{[][]api.Change{{put("a", text(40))}}, changes(put("b", text(100)), put("b", "")), api.OK, changes(put("a", text(40)), put("b", ""))},
		{[][]api.Change{{put("b", "1")}, {put("c", "2")}, {drop("b")}, {put("c", "3")}, {drop("x")}}, changes(put("a", "4"), put("b", "5")), api.OK, changes(put("a", "4"), put("b", "5"), put("c", "3"))},
	} {
		d := disk.New(6)
		s := opened(t, d)
		was := map[string]string{}
		for _, l := range x.ahead {
			committed(t, s, l...)
			was = left(was, l)
		}
		kept := d.Bytes()
		if e := s.Commit(x.l); e != x.e {
			t.Fatal(i, e)
		}
		now := left(map[string]string{}, x.want)
		for _, k := range []*Store{s, opened(t, d)} {
			if !is(k, now) {
				t.Fatalf("%d: %q", i, k.All(""))
			}
		}
		if x.e != api.OK {
			if !maps.Equal(now, was) || !bytes.Equal(d.Bytes(), kept) {
				t.Fatal(i, "it was changed")
			}
			continue
		}
		if len(x.want) == 0 {
			checkRecords(t, d)
		} else {
			checkRecords(t, d, documented(x.want))
		}
		if s.Room() != openedLog(t, d).Room() {
			t.Fatal(i, s.Room())
		}
	}
}

func TestTheGreatestGen(t *testing.T) {
	b := diskOf(t, 8, documented(changes(put("a", "1")))).Bytes()
	// The word of a head of this Gen, of area 0, with 11 bytes Used, behind its sum (chapter 10).
	word := []byte{0xff, 0xff, 0xc0, 11}
	sum := crc32.Checksum(word, crc32.MakeTable(crc32.Castagnoli))
	copy(b[32:], append([]byte{byte(sum >> 24), byte(sum >> 16), byte(sum >> 8), byte(sum)}, word...))
	d := disk.Open(b)
	if log := openedLog(t, d); log.Gen() != 1<<18-1 || log.Used() != 11 {
		t.Fatal(log.Gen(), log.Used())
	}
	s := opened(t, d)
	checkStore(t, s, map[string]string{"a": "1"})
	d.Faults([]bool{true})
	for i, x := range []struct{ got, want api.Errno }{
		{s.Commit(changes(put("b", "2"))), api.ErrFull},
		{s.Commit(changes(drop("a"))), api.ErrFull},
		{s.Commit(nil), api.OK},
		{s.Commit(changes(drop(""))), api.ErrArg},
		{s.Commit(many(49)), api.ErrLong},
		{s.Compact(), api.ErrFull},
	} {
		if x.got != x.want {
			t.Error(i, x.got, x.want)
		}
	}
	checkStore(t, s, map[string]string{"a": "1"})
	if !bytes.Equal(d.Bytes(), b) || s.Room() != 96-11 {
		t.Error("it was changed", s.Room())
	}
	checkNoCall(t, d)
}

// P11.4

func TestTheSnapshot(t *testing.T) {
	// Of 304 bytes 13 go into a record, with 48 more.
	big := func(first byte, n int) []api.Change {
		var l []api.Change
		for i := range n {
			l = append(l, sized(string([]byte{first, byte('a' + i)}), 304))
		}
		return l
	}
	for i, x := range []struct {
		l    []api.Change
		cuts []int // at which of the rising changes a record ends
	}{
		{nil, nil},
		{changes(put("a", "")), []int{1}},
		{changes(put("c", "1"), put("b", ""), put("a", "2")), []int{3}},
		{big('k', 13), []int{13}},
		{big('k', 14), []int{13, 14}},
		{big('k', 26), []int{13, 26}},
		{append(big('k', 13), sized("l", 48)), []int{14}},
		{append(big('k', 13), sized("l", 49)), []int{13, 14}},
		{append(big('k', 13), sized("j", 48)), []int{14}},
		{append(big('k', 13), sized("j", 49)), []int{13, 14}},
		{append(big('k', 13), sized("l", 24), sized("m", 24)), []int{15}},
		{append(big('k', 13), sized("l", 24), sized("m", 25)), []int{14, 15}},
		// A later change is not taken ahead of one that goes in no more.
		{append(big('k', 14), put("z", "")), []int{13, 15}},
		{append(append(big('k', 13), sized("l", 49)), put("m", "")), []int{13, 15}},
		{append(append(big('k', 13), big('l', 13)...), put("kz", "1"), put("z", "2")), []int{14, 28}},
		{append(append(big('k', 13), big('l', 13)...), sized("zb", 36), sized("za", 48)), []int{13, 27, 28}},
	} {
		d := disk.New(512)
		s := opened(t, d)
		var rising []api.Change
		for _, c := range x.l {
			committed(t, s, c, drop("none"))
		}
		for _, key := range slices.Sorted(maps.Keys(left(map[string]string{}, x.l))) {
			v, _ := s.Get(key)
			rising = append(rising, put(key, v))
		}
		compacted(t, s)
		var want [][]byte
		used, from := 0, 0
		for _, to := range x.cuts {
			want = append(want, documented(rising[from:to]))
			used += 6 + len(documented(rising[from:to]))
			from = to
		}
		if s.Room() != 8160-used {
			t.Errorf("%d: room is %d, want %d", i, s.Room(), 8160-used)
		}
		checkRecords(t, d, want...)
		checkStore(t, s, left(map[string]string{}, x.l))
		checkStore(t, opened(t, d), left(map[string]string{}, x.l))
	}
}

func TestCompactChangesNothingThatIsTold(t *testing.T) {
	d := disk.New(16)
	s := opened(t, d)
	committed(t, s, put("b", "1"), put("a", "2"), put("c", ""))
	committed(t, s, put("b", "3"), drop("c"))
	want := map[string]string{"a": "2", "b": "3"}
	for range 3 {
		compacted(t, s)
		checkStore(t, s, want)
		checkStore(t, opened(t, d), want)
		checkRecords(t, d, documented(changes(put("a", "2"), put("b", "3"))))
		if s.Room() != 7*32-6-10 {
			t.Error(s.Room())
		}
	}
	committed(t, s, drop("a"), drop("b"))
	compacted(t, s)
	checkRecords(t, d)
	checkStore(t, s, nil)
	checkStore(t, opened(t, d), nil)
	if s.Room() != 7*32 {
		t.Error(s.Room())
	}
	committed(t, s, put("x", "1"))
	checkStore(t, opened(t, d), map[string]string{"x": "1"})
}

func TestASnapshotMayBeTooLong(t *testing.T) {
	// Two records fill the area of 250 blocks; by rising keys these changes make three.
	var big []api.Change
	for i := range 26 {
		big = append(big, sized(string([]byte{'k', byte('a' + i)}), 304))
	}
	one, two := append(slices.Clone(big[:13]), sized("z1", 48)), append(slices.Clone(big[13:]), sized("z2", 36))
	one[0], two[0] = sized("ka", 304), sized("kn", 304)
	d := disk.New(502)
	s := opened(t, d)
	committed(t, s, one...)
	committed(t, s, two...)
	want := left(map[string]string{}, append(slices.Clone(one), two...))
	kept := d.Bytes()
	d.Faults([]bool{true})
	if e := s.Compact(); e != api.ErrFull || s.Room() != 0 {
		t.Fatal(e, s.Room())
	}
	if e := s.Commit(changes(put("z2", "1"), put("z3", text(300)))); e != api.ErrFull || s.Room() != 0 {
		t.Fatal(e, s.Room())
	}
	checkStore(t, s, want)
	checkStore(t, opened(t, d), want)
	if !bytes.Equal(d.Bytes(), kept) {
		t.Error("it was changed")
	}
	checkNoCall(t, d)
	committed(t, s, drop("z2"))
	checkStore(t, s, left(want, changes(drop("z2"))))
	checkStore(t, opened(t, d), left(want, changes(drop("z2"))))
}

// A job is what is done to a store, and what a log is to do then.
type job struct {
	name   string
	blocks int
	ahead  [][]api.Change
	do     func(*Store) api.Errno
	byHand func(*wal.Log) api.Errno
	now    map[string]string
}

func jobs() []job {
	commit := func(l ...api.Change) func(*Store) api.Errno {
		return func(s *Store) api.Errno { return s.Commit(l) }
	}
	appends := func(l ...api.Change) func(*wal.Log) api.Errno {
		return func(log *wal.Log) api.Errno { return log.Append(documented(l)) }
	}
	replaces := func(l ...api.Change) func(*wal.Log) api.Errno {
		return func(log *wal.Log) api.Errno {
			if len(l) == 0 {
				return log.Replace(nil)
			}
			return log.Replace([][]byte{documented(l)})
		}
	}
	ahead := [][]api.Change{{put("b", "1"), put("a", "2")}, {drop("a"), put("c", "3")}}
	full := [][]api.Change{{put("b", "1"), put("a", "2")}, {put("c", text(30))}}
	return []job{
		{"a first one", 6, nil, commit(put("a", "1")), appends(put("a", "1")), map[string]string{"a": "1"}},
		{"several", 8, ahead, commit(put("b", "4"), drop("c"), put("d", text(30))), appends(put("b", "4"), drop("c"), put("d", text(30))), map[string]string{"b": "4", "d": text(30)}},
		{"no change", 8, ahead, commit(drop("a")), appends(drop("a")), map[string]string{"b": "1", "c": "3"}},
		{"in a full log", 6, full, commit(put("b", "4"), drop("a")), replaces(put("b", "4"), put("c", text(30))), map[string]string{"b": "4", "c": text(30)}},
		{"all is gone", 6, full, commit(drop("a"), drop("b"), drop("c")), replaces(), map[string]string{}},
		{"compact", 8, ahead, (*Store).Compact, replaces(put("b", "1"), put("c", "3")), map[string]string{"b": "1", "c": "3"}},
		{"compact of none", 8, nil, (*Store).Compact, replaces(), map[string]string{}},
	}
}

// ready is the disk as it is ahead of a job, the store that lies on it, and what it has.
func (j job) ready(t *testing.T) (*disk.Disk, *Store, map[string]string) {
	t.Helper()
	d := disk.New(j.blocks)
	s := opened(t, d)
	was := map[string]string{}
	for _, l := range j.ahead {
		committed(t, s, l...)
		was = left(was, l)
	}
	return d, s, was
}

// mostCalls is more than any of the jobs makes of the disk.
const mostCalls = 9

func TestTheLogsCallsAreMade(t *testing.T) {
	for _, j := range jobs() {
		for n := range mostCalls + 1 {
			for _, off := range []bool{false, true} {
				d, s, was := j.ready(t)
				twin := disk.Open(d.Bytes())
				log := openedLog(t, twin)
				for _, x := range []*disk.Disk{d, twin} {
					if off {
						x.Stop(n)
					} else {
						x.Faults(append(make([]bool, n), true))
					}
				}
				e, want := j.do(s), j.byHand(log)
				if e != want || n == 0 && e != api.ErrDisk || n == mostCalls && e != api.OK {
					t.Fatal(j.name, n, off, e, want)
				}
				checkSameDisks(t, d, twin)
				if e != api.OK {
					checkStore(t, s, was)
				} else {
					checkStore(t, s, j.now)
				}
				if s.Room() != log.Room() {
					t.Fatal(j.name, n, off, s.Room(), log.Room())
				}
				// As many of the planned calls are left.
				if a, b := d.Sync(), twin.Sync(); a != b {
					t.Fatal(j.name, n, off, a, b)
				}
			}
		}
	}
}

func TestAfterAFaultOneGoesOn(t *testing.T) {
	for _, j := range jobs() {
		for n := range mostCalls {
			d, s, was := j.ready(t)
			d.Faults(append(make([]bool, n), true))
			if j.do(s) == api.OK {
				break
			}
			d.Faults(nil)
			checkStore(t, opened(t, d), was)
			if e := j.do(s); e != api.OK {
				t.Fatal(j.name, n, e)
			}
			checkStore(t, s, j.now)
			checkStore(t, opened(t, d), j.now)
		}
	}
}

// P11.5

func TestACrashLeavesAllOfACommitOrNothing(t *testing.T) {
	r := rand.New(rand.NewSource(3))
	for _, j := range jobs() {
		olds, news := 0, 0
		for n := range mostCalls + 1 {
			for i := range 70 {
				d, s, was := j.ready(t)
				d.Stop(n)
				e := j.do(s)
				cuts := bytes.Repeat([]byte{byte(min(i, 32))}, d.Staged())
				for k := range cuts {
					if i > 32 {
						cuts[k] = byte(r.Intn(33))
					}
				}
				d.Crash(cuts)
				s = opened(t, d)
				old, now := is(s, was), is(s, j.now)
				if e == api.OK && !now || !old && !now {
					t.Fatalf("%s, %d, %v: %v, there is %q", j.name, n, cuts, e, s.All(""))
				}
				if old {
					olds++
				}
				if now {
					news++
				}
				committed(t, s, put("x", ""))
				if v, ok := opened(t, d).Get("x"); v != "" || !ok {
					t.Fatal(j.name, n, v, ok)
				}
			}
		}
		if olds == 0 || news == 0 {
			t.Error(j.name, olds, news)
		}
	}
}

func TestDrawnRuns(t *testing.T) {
	r := rand.New(rand.NewSource(4))
	var fulls, faults, crashes, news int
	for run := range 300 {
		d := disk.New(4 + r.Intn(36))
		if run%10 == 0 {
			d = disk.New(512)
		}
		s := opened(t, d)
		was := map[string]string{}
		for range 60 {
			// The log that does likewise lies on a disk of its own.
			twin := disk.Open(d.Bytes())
			log := openedLog(t, twin)
			if r.Intn(3) == 0 {
				plan := []bool{r.Intn(6) == 0, r.Intn(6) == 0, r.Intn(6) == 0, r.Intn(6) == 0}
				d.Faults(plan)
				twin.Faults(plan)
			}
			if r.Intn(5) == 0 {
				n := r.Intn(12)
				d.Stop(n)
				twin.Stop(n)
			}
			now := was
			var e, want api.Errno
			if l := drawnChanges(r, 4); r.Intn(9) == 0 {
				e, want = s.Compact(), log.Replace(documentedSnapshot(was))
			} else if e = s.Commit(l); len(l) > 0 {
				now = left(was, l)
				want = log.Append(documented(l))
				if want == api.ErrFull {
					fulls++
					want = log.Replace(documentedSnapshot(now))
				}
			}
			if e != want || s.Room() != log.Room() {
				t.Fatal(e, want, s.Room(), log.Room())
			}
			checkSameDisks(t, d, twin)
			if e == api.OK {
				was = now
			}
			checkStore(t, s, was)
			if e == api.ErrDisk {
				faults++
			}
			if !d.On() || r.Intn(9) == 0 {
				crashes++
				cuts := make([]byte, d.Staged())
				r.Read(cuts)
				d.Crash(cuts)
				s = opened(t, d)
				if e == api.ErrDisk && !is(s, was) {
					news++
					was = now
				}
				checkStore(t, s, was)
			}
			d.Faults(nil)
			d.Stop(-1)
			checkStore(t, opened(t, d), was)
		}
	}
	if fulls < 1000 || faults < 1000 || crashes < 1000 || news < 50 {
		t.Error(fulls, faults, crashes, news)
	}
}

// R4, R5, R6

func TestWhatIsHandedInIsNeitherChangedNorKept(t *testing.T) {
	d := disk.New(16)
	s := opened(t, d)
	l := changes(put("b", "1"), put("a", "2"), drop("b"), put("c", "3"))
	was := slices.Clone(l)
	committed(t, s, l...)
	if e := s.Commit(l[:3]); e != api.OK || !slices.Equal(l, was) {
		t.Error(e, l)
	}
	b, e := Encode(l)
	if e != api.OK || !slices.Equal(l, was) {
		t.Error(e, l)
	}
	kept := slices.Clone(b)
	m, e := Decode(b)
	if e != api.OK || !bytes.Equal(b, kept) {
		t.Error(e, b)
	}
	clear(b)
	clear(l)
	if !slices.Equal(m, was) {
		t.Error(m)
	}
	checkStore(t, s, map[string]string{"a": "2", "c": "3"})
	compacted(t, s)
	checkStore(t, opened(t, d), map[string]string{"a": "2", "c": "3"})
}

func TestAnswersAreMemoryOfTheirOwn(t *testing.T) {
	d := disk.New(16)
	s := opened(t, d)
	committed(t, s, put("a", "1"), put("b", "2"))
	before := s.All("")
	l := s.All("")
	clear(l)
	checkStore(t, s, map[string]string{"a": "1", "b": "2"})
	committed(t, s, put("a", "3"), drop("b"))
	compacted(t, s)
	if !slices.Equal(before, []api.Pair{{Name: "a", Value: "1"}, {Name: "b", Value: "2"}}) {
		t.Error(before)
	}
	in := changes(put("a", "1"), put("b", "2"))
	b, _ := Encode(in)
	clear(b)
	if c, _ := Encode(in); !bytes.Equal(c, documented(in)) {
		t.Errorf("%q", c)
	}
}

func TestStoresAreApart(t *testing.T) {
	d, other := disk.New(8), disk.New(8)
	a, b := opened(t, d), opened(t, other)
	committed(t, a, put("a", "1"))
	committed(t, b, put("b", "2"))
	c := opened(t, d)
	committed(t, a, put("a", "3"))
	checkStore(t, a, map[string]string{"a": "3"})
	checkStore(t, b, map[string]string{"b": "2"})
	checkStore(t, c, map[string]string{"a": "1"})
}

// The document's example.
func TestExample(t *testing.T) {
	s := opened(t, disk.New(8))
	committed(t, s, put("y", "b"))
	committed(t, s, put("x", "a"), drop("y"))
	if v, ok := s.Get("x"); v != "a" || !ok {
		t.Error(v, ok)
	}
	if v, ok := s.Get("y"); v != "" || ok {
		t.Error(v, ok)
	}
}
