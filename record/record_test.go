package record

import (
	"encoding/binary"
	"math"
	"math/rand"
	"regexp"
	"strings"
	"testing"

	"matricula/api"
	"matricula/ticket"
)

var kinds = []int{1, 2, 3, 4, 5, 6}

// others are numbers of which no kind is: some are one, cut to a byte or to four.
var others = []int{7, 8, 255, 256, 257, 258, 260, 1 << 32, 1<<32 + 1, 1<<32 + 4, 1<<40 + 2, -1, -2, -6, -254, -255, math.MaxInt, math.MinInt, math.MinInt + 1}

// documentedComes are all pairs that the document tells: what comes of what.
var documentedComes = [][2]int{{2, 1}, {3, 4}, {4, 2}, {4, 3}, {5, 4}, {1, 0}, {6, 0}}

// aName is how a name of each kind looks: none, of the kind 0.
var aName = []*regexp.Regexp{
	regexp.MustCompile(`\A\z`),
	regexp.MustCompile(`\ATGT-[0-9a-f]{16}\z`),
	regexp.MustCompile(`\AST-[0-9a-f]{16}\z`),
	regexp.MustCompile(`\APT-[0-9a-f]{16}\z`),
	regexp.MustCompile(`\APGT-[0-9a-f]{16}\z`),
	regexp.MustCompile(`\APGTIOU-[0-9a-f]{16}\z`),
	regexp.MustCompile(`\ALT-[0-9a-f]{16}\z`),
}

func name(kind int, draw uint64) string {
	s, _ := ticket.Name(kind, draw)
	return s
}

func comes(kind, of int) bool {
	for _, x := range documentedComes {
		if x == [2]int{kind, of} {
			return true
		}
	}
	return false
}

// right is the document's word of what can be.
func right(r api.Record) bool {
	parent := false
	for of := range aName {
		parent = parent || comes(r.Kind, of) && aName[of].MatchString(r.Parent)
	}
	named := r.Kind >= 1 && r.Kind <= 6 && aName[r.Kind].MatchString(r.Name)
	texts := len(r.User) <= 32 && len(r.Service) <= 100 && len(r.Url) <= 100
	return named && parent && texts && r.Made >= 0 && r.Made <= r.Used && r.Used <= 1<<40 && r.Uses >= 0 && r.Uses <= 255
}

// written is the document's word of how one that can be is written.
func written(r api.Record) string {
	fresh := byte(0)
	if r.Fresh {
		fresh = 1
	}
	b := []byte{byte(r.Kind), byte(r.Uses), fresh}
	b = binary.BigEndian.AppendUint64(b, uint64(r.Made))
	b = binary.BigEndian.AppendUint64(b, uint64(r.Used))
	for _, x := range []string{r.Parent, r.User, r.Service, r.Url} {
		b = append(append(b, byte(len(x))), x...)
	}
	return string(b)
}

// read is what bytes tell of the record of a name, by their places: it is refused where there is one too few, or too many.
func read(name, s string) (api.Record, bool) {
	if len(s) < 19 || s[2] > 1 {
		return api.Record{}, false
	}
	r := api.Record{Name: name, Kind: int(s[0]), Uses: int(s[1]), Fresh: s[2] == 1}
	r.Made = int(binary.BigEndian.Uint64([]byte(s[3:11])))
	r.Used = int(binary.BigEndian.Uint64([]byte(s[11:19])))
	s = s[19:]
	for _, to := range []*string{&r.Parent, &r.User, &r.Service, &r.Url} {
		if s == "" || len(s) < 1+int(s[0]) {
			return api.Record{}, false
		}
		*to, s = s[1:1+int(s[0])], s[1+int(s[0]):]
	}
	return r, s == "" && right(r)
}

// born is one of a kind that can be, and has nothing else.
func born(kind int) api.Record {
	parents := []string{"", "", name(api.TGT, 2), name(api.PGT, 2), name(api.ST, 2), name(api.PGT, 2), ""}
	return api.Record{Kind: kind, Name: name(kind, 1), Parent: parents[kind]}
}

// someBytes are drawn, of whatever kind: most of them at most.
func someBytes(r *rand.Rand, most int) string {
	b := make([]byte, r.Intn(most+1))
	r.Read(b)
	return string(b)
}

// drawn is a record that can be: now and then its numbers, and its lengths, are the least or the greatest.
func drawn(r *rand.Rand) api.Record {
	x := born(1 + r.Intn(6))
	x.Name = name(x.Kind, r.Uint64())
	if kind, _, ok := ticket.Parse(x.Parent); ok {
		if x.Kind == api.PGT && r.Intn(2) == 0 {
			kind = api.PT
		}
		x.Parent = name(kind, r.Uint64())
	}
	x.User, x.Service, x.Url = someBytes(r, 32), someBytes(r, 100), someBytes(r, 100)
	x.Made = r.Intn(1<<40+1) >> r.Intn(41)
	x.Used = x.Made + r.Intn(1<<40+1-x.Made)>>r.Intn(41)
	x.Uses = r.Intn(256)
	x.Fresh = r.Intn(2) == 0
	switch r.Intn(8) {
	case 0:
		x.Made, x.Used, x.Uses = 0, 1<<40, 255
	case 1:
		x.Made, x.Uses = x.Used, 0
	case 2:
		x.User, x.Service, x.Url = strings.Repeat("u", 32), strings.Repeat("s", 100), strings.Repeat("c", 100)
	case 3:
		x.User, x.Service, x.Url = "", "", ""
	}
	return x
}

// checkRight holds a record that can be, or can't: in what Right tells, in how it is written, and in that it is read.
func checkRight(t *testing.T, r api.Record, want bool) {
	t.Helper()
	for range 2 {
		if got := Right(r); got != want {
			t.Fatalf("Right(%#v) = %v", r, got)
		}
	}
	s, e := Encode(r)
	if !want {
		if s != "" || e != api.ErrArg {
			t.Fatalf("Encode(%#v) = %q, %v, want none, ErrArg", r, s, e)
		}
		return
	}
	if s != written(r) || e != api.OK {
		t.Fatalf("Encode(%#v) = %q, %v, want %q", r, s, e, written(r))
	}
	if len(s) > api.MaxValue {
		t.Fatalf("Encode(%#v) has %d bytes", r, len(s))
	}
	if again, e := Encode(r); again != s || e != api.OK {
		t.Fatalf("Encode(%#v) = %q, %v, and %q ahead of that", r, again, e, s)
	}
	checkDecode(t, r.Name, s, r, true)
}

func checkDecode(t *testing.T, name, s string, want api.Record, ok bool) {
	t.Helper()
	wantE := api.ErrKind
	if ok {
		wantE = api.OK
	}
	for range 2 {
		if got, e := Decode(name, s); got != want || e != wantE {
			t.Fatalf("Decode(%q, %q) = %#v, %v, want %#v, %v", name, s, got, e, want, wantE)
		}
	}
}

// checkRead holds Decode to what the bytes tell by their places.
func checkRead(t *testing.T, name, s string) {
	t.Helper()
	if want, ok := read(name, s); ok {
		checkDecode(t, name, s, want, true)
	} else {
		checkDecode(t, name, s, api.Record{}, false)
	}
}

// P13.1

func TestComes(t *testing.T) {
	for _, x := range []struct {
		kind, of int
		want     bool
	}{
		{api.ST, api.TGT, true}, {api.PT, api.PGT, true}, {api.PGT, api.ST, true}, {api.PGT, api.PT, true},
		{api.IOU, api.PGT, true}, {api.TGT, 0, true}, {api.LT, 0, true},
		{api.TGT, api.ST, false}, {api.PGT, api.PT + 1, false}, {api.ST, api.ST, false}, {api.TGT, api.TGT, false},
		{api.PT, api.ST, false}, {api.PT, api.TGT, false}, {api.ST, api.PGT, false}, {api.PGT, api.TGT, false},
		{api.IOU, api.ST, false}, {api.LT, api.TGT, false}, {api.TGT, api.LT, false},
		{api.ST, 0, false}, {api.PT, 0, false}, {api.PGT, 0, false}, {api.IOU, 0, false}, {0, 0, false}, {0, api.TGT, false},
	} {
		if got := Comes(x.kind, x.of); got != x.want {
			t.Errorf("Comes(%d, %d) = %v", x.kind, x.of, got)
		}
	}
}

// Each kind is asked of each one, and of numbers that are none.
func TestComesOfAll(t *testing.T) {
	numbers := append([]int{0}, kinds...)
	numbers = append(numbers, others...)
	for n := 9; n < 300; n++ {
		numbers = append(numbers, n, -n)
	}
	told := 0
	for _, kind := range numbers {
		for _, of := range numbers {
			got := Comes(kind, of)
			if got != comes(kind, of) || got != Comes(kind, of) {
				t.Fatalf("Comes(%d, %d) = %v", kind, of, got)
			}
			if got {
				told++
			}
		}
	}
	if told < len(documentedComes) {
		t.Errorf("%d come of one", told)
	}
}

func TestRightPlain(t *testing.T) {
	for _, kind := range kinds {
		r := born(kind)
		checkRight(t, r, true)
		r.User, r.Service, r.Url, r.Fresh = "u", "http://s/", "https://c/", true
		r.Made, r.Used, r.Uses = 258, 259, 3
		checkRight(t, r, true)
	}
	checkRight(t, api.Record{}, false)
}

// A name has to be of the record's own kind, and whole.
func TestRightName(t *testing.T) {
	for _, kind := range kinds {
		for _, of := range kinds {
			r := born(kind)
			r.Name = name(of, 7)
			checkRight(t, r, of == kind)
		}
		own := name(kind, 0xabcdef)
		for _, bad := range []string{"", own[:len(own)-1], own + "0", " " + own, own + "\x00", strings.ToUpper(own), strings.ToLower(own), strings.Replace(own, "-", "_", 1), "X" + own, own + own, "\xff" + own, "-0000000000000001"} {
			r := born(kind)
			r.Name = bad
			checkRight(t, r, false)
		}
		r := born(kind)
		for _, n := range append([]int{0}, others...) {
			r.Kind = n
			checkRight(t, r, false)
		}
	}
}

func TestRightParent(t *testing.T) {
	for _, kind := range kinds {
		for of := 0; of <= 6; of++ {
			for _, draw := range []uint64{0, 1, math.MaxUint64} {
				r := born(kind)
				r.Parent = name(of, draw)
				checkRight(t, r, comes(kind, of))
			}
		}
		own := born(kind).Parent
		for _, bad := range []string{own + "0", own + " ", "x" + own, own + own + "x", "0", "-", "TGT", "TGT-", "LT-1", strings.ToUpper(own) + "\x00", "\xff"} {
			r := born(kind)
			r.Parent = bad
			checkRight(t, r, false)
		}
		if own != "" {
			r := born(kind)
			r.Parent = own[:len(own)-1]
			checkRight(t, r, false)
			r.Parent = ""
			checkRight(t, r, false)
		}
	}
	// One may have come of a ticket of its own draw, and one of no kind's name comes of nothing.
	r := born(api.ST)
	r.Parent = name(api.TGT, 1)
	checkRight(t, r, true)
	r = api.Record{Kind: 0, Name: ""}
	checkRight(t, r, false)
	r.Parent = name(api.TGT, 1)
	checkRight(t, r, false)
}

func TestRightTexts(t *testing.T) {
	for _, kind := range kinds {
		for n := range 300 {
			text := strings.Repeat("x", n)
			r := born(kind)
			r.User = text
			checkRight(t, r, n <= 32)
			r = born(kind)
			r.Service = text
			checkRight(t, r, n <= 100)
			r = born(kind)
			r.Url = text
			checkRight(t, r, n <= 100)
		}
		// Lengths are those of bytes, and which bytes these are is all the same.
		r := born(kind)
		r.User = strings.Repeat("ü", 16)
		checkRight(t, r, true)
		r.User += "u"
		checkRight(t, r, false)
		r.User = "\x00\xff\n"
		r.Service = strings.Repeat("€", 33) + "s"
		r.Url = strings.Repeat("\xff", 100)
		checkRight(t, r, true)
		r.Service += "s"
		checkRight(t, r, false)
		r = born(kind)
		r.Service = strings.Repeat("x", 256+5)
		checkRight(t, r, false)
		r.Service, r.Url = "", strings.Repeat("x", 1<<16)
		checkRight(t, r, false)
	}
}

func TestRightTimes(t *testing.T) {
	for _, x := range []struct {
		made, used int
		want       bool
	}{
		{0, 0, true}, {0, 1, true}, {5, 5, true}, {5, 6, true}, {0, 1 << 40, true}, {1 << 40, 1 << 40, true}, {1<<40 - 1, 1 << 40, true},
		{1, 0, false}, {6, 5, false}, {1 << 40, 0, false}, {1 << 40, 1<<40 - 1, false}, {0, 1<<40 + 1, false}, {1<<40 + 1, 1<<40 + 1, false}, {1<<40 + 1, 1 << 40, false},
		{-1, 0, false}, {-1, -1, false}, {0, -1, false}, {-5, 5, false}, {math.MinInt, 0, false}, {math.MinInt, math.MinInt, false}, {0, math.MinInt, false},
		{math.MinInt, math.MaxInt, false}, {0, math.MaxInt, false}, {math.MaxInt, math.MaxInt, false}, {math.MaxInt, math.MinInt, false}, {0, 1 << 62, false},
	} {
		for _, kind := range kinds {
			r := born(kind)
			r.Made, r.Used = x.made, x.used
			checkRight(t, r, x.want)
		}
	}
}

func TestRightUses(t *testing.T) {
	for _, kind := range kinds {
		for n := -300; n < 600; n++ {
			r := born(kind)
			r.Uses = n
			checkRight(t, r, n >= 0 && n <= 255)
		}
		for _, n := range []int{1 << 16, 1 << 32, 1<<32 + 1, math.MaxInt, math.MinInt, math.MinInt + 1} {
			r := born(kind)
			r.Uses = n
			checkRight(t, r, false)
		}
	}
}

// What can be hangs on nothing but these: drawn records, of which one thing or another is spoilt.
func TestRightDrawn(t *testing.T) {
	r := rand.New(rand.NewSource(131))
	counts := [2]int{}
	for range 30000 {
		x := drawn(r)
		for range r.Intn(3) {
			spoil(r, &x)
		}
		want := right(x)
		checkRight(t, x, want)
		if want {
			counts[1]++
		} else {
			counts[0]++
		}
	}
	if counts[0] < 5000 || counts[1] < 5000 {
		t.Errorf("%v of them can't, and can be", counts)
	}
}

func spoil(r *rand.Rand, x *api.Record) {
	switch r.Intn(9) {
	case 0:
		x.Kind = r.Intn(9) - 1
	case 1:
		x.Name = name(1+r.Intn(6), r.Uint64())
	case 2:
		x.Parent = name(r.Intn(7), r.Uint64())
	case 3:
		x.User = someBytes(r, 40)
	case 4:
		x.Service = someBytes(r, 110)
	case 5:
		x.Url = someBytes(r, 110)
	case 6:
		x.Made += r.Intn(5) - 2
	case 7:
		x.Used += r.Intn(5) - 2
	case 8:
		x.Uses += r.Intn(21) - 10
	}
}

// P13.2

func TestExample(t *testing.T) {
	r := api.Record{Kind: api.TGT, Name: name(api.TGT, 9), User: "u", Made: 5, Used: 5}
	want := "\x01\x00\x00" + "\x00\x00\x00\x00\x00\x00\x00\x05" + "\x00\x00\x00\x00\x00\x00\x00\x05" + "\x00" + "\x01u" + "\x00" + "\x00"
	s, e := Encode(r)
	if s != want || e != api.OK || len(s) != 24 {
		t.Errorf("Encode(%#v) = %q, %v, want %q", r, s, e, want)
	}
	checkDecode(t, r.Name, want, r, true)
}

func TestEncode(t *testing.T) {
	for _, x := range []struct {
		r    api.Record
		want string
	}{
		{api.Record{Kind: api.LT, Name: name(api.LT, 1)}, "\x06\x00\x00" + strings.Repeat("\x00", 20)},
		{
			api.Record{Kind: api.LT, Name: name(api.LT, 1), Used: 1 << 40, Uses: 255, Fresh: true},
			"\x06\xff\x01" + strings.Repeat("\x00", 8) + "\x00\x00\x01\x00\x00\x00\x00\x00" + "\x00\x00\x00\x00",
		},
		{
			api.Record{Kind: api.ST, Name: name(api.ST, 1), Parent: name(api.TGT, 15), User: "user", Service: "http://s/", Made: 0x0102030405, Used: 0x0a0b0c0d0e, Uses: 1},
			"\x02\x01\x00" + "\x00\x00\x00\x01\x02\x03\x04\x05" + "\x00\x00\x00\x0a\x0b\x0c\x0d\x0e" + "\x14TGT-000000000000000f" + "\x04user" + "\x09http://s/" + "\x00",
		},
		{
			api.Record{Kind: api.PT, Name: name(api.PT, 1), Parent: name(api.PGT, 2), Url: "https://c/", Fresh: true, Made: 255, Used: 256, Uses: 128},
			"\x03\x80\x01" + "\x00\x00\x00\x00\x00\x00\x00\xff" + "\x00\x00\x00\x00\x00\x00\x01\x00" + "\x14PGT-0000000000000002" + "\x00" + "\x00" + "\x0ahttps://c/",
		},
		{
			api.Record{Kind: api.PGT, Name: name(api.PGT, 1), Parent: name(api.PT, 2), User: strings.Repeat("u", 32), Service: strings.Repeat("s", 100), Url: strings.Repeat("c", 100)},
			"\x04\x00\x00" + strings.Repeat("\x00", 16) + "\x13PT-0000000000000002" + "\x20" + strings.Repeat("u", 32) + "\x64" + strings.Repeat("s", 100) + "\x64" + strings.Repeat("c", 100),
		},
		{
			api.Record{Kind: api.IOU, Name: name(api.IOU, 1), Parent: name(api.PGT, math.MaxUint64), User: "\x00\xff"},
			"\x05\x00\x00" + strings.Repeat("\x00", 16) + "\x14PGT-ffffffffffffffff" + "\x02\x00\xff" + "\x00\x00",
		},
	} {
		if s, e := Encode(x.r); s != x.want || e != api.OK {
			t.Errorf("Encode(%#v) = %q, %v, want %q", x.r, s, e, x.want)
		}
		checkDecode(t, x.r.Name, x.want, x.r, true)
	}
}

// The name is none of the bytes: they tell a record of whichever name of the kind it is, and of no other one.
func TestDecodeName(t *testing.T) {
	for _, kind := range kinds {
		r := born(kind)
		r.User = "u"
		s, _ := Encode(r)
		for _, of := range kinds {
			for _, draw := range []uint64{0, 1, 2, math.MaxUint64} {
				want := api.Record{}
				if of == kind {
					want = r
					want.Name = name(of, draw)
				}
				checkDecode(t, name(of, draw), s, want, of == kind)
			}
		}
		own := r.Name
		for _, bad := range []string{"", own[:len(own)-1], own + "0", "x" + own, strings.ToLower(own), "\xff", s, strings.Repeat(own, 1000)} {
			checkDecode(t, bad, s, api.Record{}, false)
		}
	}
	// Its parent may be of the same draw, or of another one.
	r := born(api.ST)
	s, _ := Encode(r)
	r.Name = name(api.ST, 2)
	checkDecode(t, r.Name, s, r, true)
}

func TestDecodeWrong(t *testing.T) {
	r := api.Record{Kind: api.PGT, Name: name(api.PGT, 1), Parent: name(api.ST, 2), User: "u", Service: "http://s/", Url: "https://c/", Made: 258, Used: 259, Uses: 3, Fresh: true}
	s, _ := Encode(r)
	for _, bad := range []string{
		"", "\x04", "\x04\x03\x01", s + "\x00", s + "x", s + s, "\x00" + s, s[1:],
		"\x00" + s[1:], "\x05" + s[1:], "\x03" + s[1:], "\x07" + s[1:], "\xff" + s[1:],
		s[:2] + "\x02" + s[3:], s[:2] + "\xff" + s[3:],
		s[:3] + "\x80" + s[4:], s[:3] + "\x01" + s[4:], s[:11] + "\x80" + s[12:], s[:11] + "\xff" + s[12:],
		s[:3] + "\x00\x00\x00\x00\x00\x00\x01\x04" + s[11:],
		s[:11] + "\x00\x00\x01\x00\x00\x00\x00\x01" + s[19:],
		s[:3] + strings.Repeat("\xff", 16) + s[19:],
		s[:19] + "\x00" + s[19+20:], s[:19] + "\x14TGT-0000000000000001" + s[19+20:], s[:19] + "\x13ST-000000000000000A" + s[19+20:],
		s[:19] + "\x12" + s[20:], s[:19] + "\x14" + s[20:], s[:19] + "\xff" + s[20:],
		s[:len(s)-1], s[:len(s)-11] + "\x0b" + s[len(s)-10:], s[:len(s)-11] + "\x09" + s[len(s)-10:],
		s[:39] + "\x21" + strings.Repeat("u", 33) + "\x00\x00",
		s[:39] + "\x00" + "\x65" + strings.Repeat("s", 101) + "\x00",
		s[:39] + "\x00" + "\x00" + "\x65" + strings.Repeat("c", 101),
		s[:39] + "\x00" + "\x00" + "\xff" + strings.Repeat("c", 255),
		s[:39], s[:39] + "\x00", s[:39] + "\x00\x00", s[:39] + "\x00\x00\x00\x00",
		strings.Repeat("\x00", 23), strings.Repeat("\xff", 23), strings.Repeat("\x01", 1<<16),
	} {
		checkDecode(t, r.Name, bad, api.Record{}, false)
		checkDecode(t, "", bad, api.Record{}, false)
	}
	checkRead(t, r.Name, s[:39]+"\x00\x00\x00")
	checkRead(t, r.Name, s[:39]+"\x20"+strings.Repeat("u", 32)+"\x00\x00")
	checkRead(t, r.Name, s[:39]+"\x00\x64"+strings.Repeat("s", 100)+"\x64"+strings.Repeat("c", 100))
}

// Each byte is put to each other value; each beginning, and each end, is taken for all.
func TestDecodeEachByte(t *testing.T) {
	for _, kind := range kinds {
		r := born(kind)
		r.User, r.Service, r.Url, r.Fresh, r.Made, r.Used, r.Uses = "u", "s:", "\x00\x01", kind%2 == 0, 0x0102, 0x010203, 2
		s, _ := Encode(r)
		for i := range len(s) {
			for b := range 256 {
				checkRead(t, r.Name, s[:i]+string([]byte{byte(b)})+s[i+1:])
			}
			checkDecode(t, r.Name, s[:i], api.Record{}, false)
			checkRead(t, r.Name, s[i:])
			checkRead(t, r.Name, s[:i]+s[i+1:])
			checkRead(t, r.Name, s[:i]+"\x00"+s[i:])
		}
	}
}

func TestDecodeDrawn(t *testing.T) {
	r := rand.New(rand.NewSource(132))
	n := 0
	for range 30000 {
		x := drawn(r)
		b := []byte(written(x))
		for range r.Intn(3) {
			b[r.Intn(len(b))] = byte(r.Intn(256) >> r.Intn(8))
		}
		if _, ok := read(x.Name, string(b)); ok {
			n++
		}
		checkRead(t, x.Name, string(b))
		checkRead(t, x.Name, someBytes(r, 60))
	}
	if n < 10000 {
		t.Errorf("%d of them tell one", n)
	}
}

// P13.3

// The longest record there can be has room as a value of the store; the bounds of its texts are told by one byte each.
func TestLongest(t *testing.T) {
	for _, kind := range kinds {
		for of := range 7 {
			if !comes(kind, of) {
				continue
			}
			r := api.Record{Kind: kind, Name: name(kind, math.MaxUint64), Parent: name(of, math.MaxUint64), Made: 1 << 40, Used: 1 << 40, Uses: 255, Fresh: true}
			r.User, r.Service, r.Url = strings.Repeat("\xff", api.MaxUser), strings.Repeat("\xff", api.MaxService), strings.Repeat("\xff", api.MaxService)
			checkRight(t, r, true)
			s, _ := Encode(r)
			if want := 255 + len(r.Parent); len(s) != want || len(s) > api.MaxValue {
				t.Errorf("%d bytes of one of kind %d, want %d", len(s), kind, want)
			}
		}
	}
}

// Records of one name that differ in one thing, or whose texts lie otherwise beside each other, are written as unlike bytes.
func TestUnlike(t *testing.T) {
	by := map[string]api.Record{}
	put := func(r api.Record) {
		s, e := Encode(r)
		if was, ok := by[s]; ok && was != r || e != api.OK {
			t.Fatalf("%#v and %#v are both %q, %v", was, r, s, e)
		}
		by[s] = r
	}
	texts := []string{"", "\x00", "\x00\x00", "\x01", "\x01u", "u", "uu", "u\x00", "\x01\x00"}
	for _, parent := range []string{name(api.ST, 1), name(api.ST, 2), name(api.PT, 1)} {
		for _, user := range texts {
			for _, service := range texts {
				for _, url := range texts {
					for n := range 8 {
						put(api.Record{Kind: api.PGT, Name: name(api.PGT, 1), Parent: parent, User: user, Service: service, Url: url, Made: n & 1, Used: 1 + n>>1&1, Uses: n >> 2, Fresh: n%3 == 0})
					}
				}
			}
		}
	}
	if want := 3 * 9 * 9 * 9 * 8; len(by) != want {
		t.Errorf("%d texts, want %d", len(by), want)
	}
}

func TestThereAndBack(t *testing.T) {
	r := rand.New(rand.NewSource(133))
	for range 30000 {
		x := drawn(r)
		if !right(x) {
			t.Fatalf("%#v can't be", x)
		}
		checkRight(t, x, true)
	}
}
