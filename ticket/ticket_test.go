package ticket

import (
	"fmt"
	"math"
	"math/rand"
	"regexp"
	"slices"
	"strings"
	"testing"

	"matricula/api"
)

var kinds = []int{1, 2, 3, 4, 5, 6}

// others are numbers of which no kind is.
var others = []int{0, 7, 8, 255, 256, 257, 1 << 32, 1<<32 + 1, -1, -2, -6, math.MaxInt, math.MinInt, math.MinInt + 1}

var documentedPrefixes = map[int]string{1: "TGT", 2: "ST", 3: "PT", 4: "PGT", 5: "PGTIOU", 6: "LT"}

var (
	aName  = regexp.MustCompile(`\A(TGT|ST|PT|PGT|PGTIOU|LT)-[0-9a-f]{16}\z`)
	within = regexp.MustCompile(`(PGTIOU|TGT|PGT|ST|PT|LT)-[0-9a-f]{16}`)
)

// documented is a name, as the document's words have it.
func documented(kind int, draw uint64) string {
	return fmt.Sprintf("%s-%016x", documentedPrefixes[kind], draw)
}

// edges are draws with a bit, or a digit, alone or left out, and such as differ little.
func edges() []uint64 {
	l := []uint64{0, 9, 10, 15, 16, 255, 0x0123456789abcdef, 0xfedcba9876543210, math.MaxInt64, math.MaxUint64}
	for i := range 64 {
		l = append(l, 1<<i, ^uint64(1<<i))
	}
	for i := range 16 {
		for digit := range uint64(16) {
			l = append(l, digit<<(4*i))
		}
	}
	return l
}

func draws(r *rand.Rand, n int) []uint64 {
	l := make([]uint64, n)
	for i := range l {
		l[i] = r.Uint64() >> r.Intn(64)
	}
	return l
}

func free(string) bool { return false }

func checkParse(t *testing.T, s string, kind int, draw uint64, want bool) {
	t.Helper()
	if k, n, ok := Parse(s); k != kind || n != draw || ok != want {
		t.Fatalf("Parse(%q) = %d, %#x, %v, want %d, %#x, %v", s, k, n, ok, kind, draw, want)
	}
	for _, k := range slices.Concat(kinds, others) {
		if got := Is(s, k); got != (want && k == kind) {
			t.Fatalf("Is(%q, %d) = %v", s, k, got)
		}
	}
}

func checkFind(t *testing.T, s string, want ...string) {
	t.Helper()
	if got := Find(s); !slices.Equal(got, want) {
		t.Fatalf("Find(%.300q) = %q, want %q", s, got, want)
	}
}

func checkNext(t *testing.T, m *Mint, kind int, taken func(string) bool, want string, wantE api.Errno, left int) {
	t.Helper()
	got, e := m.Next(kind, taken)
	if got != want || e != wantE || m.Left() != left {
		t.Fatalf("Next(%d) = %q, %v, and %d are left, want %q, %v, %d", kind, got, e, m.Left(), want, wantE, left)
	}
}

// P12.1

func TestPrefix(t *testing.T) {
	for kind, want := range []string{"", "TGT", "ST", "PT", "PGT", "PGTIOU", "LT", ""} {
		if got := Prefix(kind); got != want {
			t.Errorf("Prefix(%d) = %q, want %q", kind, got, want)
		}
	}
	for _, x := range []struct {
		kind int
		want string
	}{{api.TGT, "TGT"}, {api.ST, "ST"}, {api.PT, "PT"}, {api.PGT, "PGT"}, {api.IOU, "PGTIOU"}, {api.LT, "LT"}} {
		if got := Prefix(x.kind); got != x.want {
			t.Errorf("Prefix(%d) = %q, want %q", x.kind, got, x.want)
		}
	}
	for _, kind := range others {
		if got := Prefix(kind); got != "" {
			t.Errorf("Prefix(%d) = %q", kind, got)
		}
	}
}

func TestName(t *testing.T) {
	for i, x := range []struct {
		kind int
		draw uint64
		want string
	}{
		{api.TGT, 0, "TGT-0000000000000000"},
		{api.ST, 255, "ST-00000000000000ff"},
		{api.PT, 1 << 63, "PT-8000000000000000"},
		{api.PGT, math.MaxUint64, "PGT-ffffffffffffffff"},
		{api.PGT, 1, "PGT-0000000000000001"},
		{api.IOU, 0xabc, "PGTIOU-0000000000000abc"},
		{api.LT, 0x0123456789abcdef, "LT-0123456789abcdef"},
		{api.LT, 0xfedcba9876543210, "LT-fedcba9876543210"},
	} {
		if got, e := Name(x.kind, x.draw); got != x.want || e != api.OK {
			t.Errorf("%d: Name(%d, %#x) = %q, %v, want %q", i, x.kind, x.draw, got, e, x.want)
		}
	}
}

func TestNameAndParseOfEachKind(t *testing.T) {
	r := rand.New(rand.NewSource(1))
	for _, draw := range slices.Concat(edges(), draws(r, 2000)) {
		for _, kind := range kinds {
			want := documented(kind, draw)
			if got, e := Name(kind, draw); got != want || e != api.OK {
				t.Fatalf("Name(%d, %#x) = %q, %v, want %q", kind, draw, got, e, want)
			}
			checkParse(t, want, kind, draw, true)
		}
	}
}

func TestNameOfNoKind(t *testing.T) {
	for _, kind := range others {
		for _, draw := range []uint64{0, 1, math.MaxUint64} {
			if got, e := Name(kind, draw); got != "" || e != api.ErrKind {
				t.Errorf("Name(%d, %#x) = %q, %v", kind, draw, got, e)
			}
		}
	}
}

func TestParseOfNoName(t *testing.T) {
	for _, s := range []string{
		"", "-", "--", "ST", "ST-", "ST-1", "-0000000000000001", "0000000000000001",
		"ST0000000000000001", "ST_0000000000000001", "ST--0000000000000001", "ST-0000000000000001-",
		"st-0000000000000001", "St-0000000000000001", "Pgtiou-0000000000000001",
		"ST-00000000000000FF", "ST-00000000000000fF", "ST-A000000000000000", "PGTIOU-ABCDEF0000000000",
		"ST-000000000000000g", "ST-g000000000000000", "ST-000000000000000:", "ST-000000000000000/", "ST-000000000000000`",
		"ST-000000000000001", "ST-00000000000000001", "ST-ffffffffffffffff0", "ST-0ffffffffffffffff",
		"ST-+000000000000001", "ST--000000000000001", "ST-0x00000000000001", "ST-0000_0000_00001", "ST-000000000000000_1",
		"ST- 000000000000001", "ST-000000000000001 ", " ST-0000000000000001", "ST-0000000000000001 ", "ST -0000000000000001",
		"ST-0000000000000001\n", "\nST-0000000000000001", "ST-0000000000000001\x00", "\x00ST-0000000000000001",
		"XT-0000000000000001", "T-0000000000000001", "S-0000000000000001", "GT-0000000000000001", "IOU-0000000000000001",
		"PGTI-0000000000000001", "PGTIO-0000000000000001", "TIOU-0000000000000001", "PGTIOUX-0000000000000001",
		"PST-0000000000000001", "XST-0000000000000001", "STT-0000000000000001", "TGTPGT-0000000000000001", "PGTPGTIOU-0000000000000001",
		"ST-0000000000000001ST-0000000000000001", "ST-ST-0000000000000001", "ST-ST-0000000000000",
		"ST-\u0661\u0661\u0661\u0661\u0661\u0661\u0661\u0661", "ST-00000000000000\u0661", "\uff33\uff34-0000000000000001",
		"\xffST-0000000000000001", "ST-000000000000000\xff",
		strings.Repeat("0", 5000), strings.Repeat("-", 5000), "ST-" + strings.Repeat("0", 5000), strings.Repeat("ST-", 5000),
	} {
		checkParse(t, s, 0, 0, false)
	}
}

// Each name with one byte changed, gone, or laid in, at each place: the document's words tell which of these is a name.
func TestParseOfNamesThatWereChanged(t *testing.T) {
	for _, kind := range kinds {
		s := documented(kind, 0x09af19be28cd37d4)
		for at := range len(s) + 1 {
			for c := range 256 {
				changed := []string{s[:at] + string([]byte{byte(c)}) + s[at:]}
				if at < len(s) {
					changed = append(changed, s[:at]+string([]byte{byte(c)})+s[at+1:], s[:at]+s[at+1:], s[:at])
				}
				for _, x := range changed {
					k, draw, ok := Parse(x)
					if ok != aName.MatchString(x) || ok && documented(k, draw) != x || !ok && (k != 0 || draw != 0) {
						t.Fatalf("Parse(%q) = %d, %#x, %v", x, k, draw, ok)
					}
				}
			}
		}
	}
}

func TestIs(t *testing.T) {
	for _, x := range []struct {
		s    string
		kind int
		want bool
	}{
		{"PGT-0000000000000001", api.PGT, true},
		{"PGT-0000000000000001", api.TGT, false},
		{"PGT-0000000000000001", api.IOU, false},
		{"PGTIOU-0000000000000001", api.IOU, true},
		{"PGTIOU-0000000000000001", api.PGT, false},
		{"PGT-0000000000000001", 0, false},
		{"PGT-0000000000000001", -1, false},
		{"PGT-0000000000000001", 7, false},
		{"PGT-1", api.PGT, false},
		{"", 0, false},
		{"-0000000000000001", 0, false},
		{"xPGT-0000000000000001", api.PGT, false},
		{"PGT-00000000000000010", api.PGT, false},
	} {
		if got := Is(x.s, x.kind); got != x.want {
			t.Errorf("Is(%q, %d) = %v", x.s, x.kind, got)
		}
	}
}

// P12.2

func TestFind(t *testing.T) {
	for _, x := range []struct {
		s    string
		want []string
	}{
		{"", nil},
		{"-", nil},
		{"ST-", nil},
		{"ST-000000000000001", nil},
		{"ST-000000000000000g", nil},
		{"ST-00000000000000FF", nil},
		{"st-0000000000000001", nil},
		{"-0000000000000001", nil},
		{"GT-0000000000000001", nil},
		{"PGTI-0000000000000001 IOU-0000000000000001", nil},
		{"ST--0000000000000001", nil},
		{"ST -0000000000000001", nil},
		{"x=PGTIOU-0000000000000001&ST-1", []string{"PGTIOU-0000000000000001"}},
		{"ST-0000000000000001", []string{"ST-0000000000000001"}},
		{"ST-00000000000000012", []string{"ST-0000000000000001"}},
		{"PST-0000000000000001", []string{"ST-0000000000000001"}},
		{"PPGT-0000000000000001", []string{"PGT-0000000000000001"}},
		{"TPGT-0000000000000001", []string{"PGT-0000000000000001"}},
		{"PTGT-0000000000000001", []string{"TGT-0000000000000001"}},
		{"PGTTGT-0000000000000001", []string{"TGT-0000000000000001"}},
		{"PGTPGTIOU-0000000000000001", []string{"PGTIOU-0000000000000001"}},
		{"PGTIOUPT-0000000000000001", []string{"PT-0000000000000001"}},
		{"PGT-PGTIOU-0000000000000001", []string{"PGTIOU-0000000000000001"}},
		{"ST-ST-ST-0000000000000001", []string{"ST-0000000000000001"}},
		{"ST-0000ST-0000000000000001-", []string{"ST-0000000000000001"}},
		{"ST-00000000000000-PT-0000000000000001", []string{"PT-0000000000000001"}},
		{"0ST-0000000000000001", []string{"ST-0000000000000001"}},
		{"\x00\xffLT-0000000000000001\xff", []string{"LT-0000000000000001"}},
		{"<a>LT-0000000000000001</a>\r\n", []string{"LT-0000000000000001"}},
		{"ST-0000000000000002 ST-0000000000000001 ST-0000000000000002", []string{"ST-0000000000000002", "ST-0000000000000001", "ST-0000000000000002"}},
		{"TGT-0000000000000001ST-0000000000000001PT-0000000000000001PGT-0000000000000001PGTIOU-0000000000000001LT-0000000000000001",
			[]string{"TGT-0000000000000001", "ST-0000000000000001", "PT-0000000000000001", "PGT-0000000000000001", "PGTIOU-0000000000000001", "LT-0000000000000001"}},
		{"?pgtId=PGT-0000000000000004&pgtIou=PGTIOU-0000000000000005", []string{"PGT-0000000000000004", "PGTIOU-0000000000000005"}},
	} {
		checkFind(t, x.s, x.want...)
	}
}

// lying are the parts of a text that are names, by where they begin.
func lying(s string) []string {
	var l []string
	for from := range s {
		for to := from; to <= len(s); to++ {
			if aName.MatchString(s[from:to]) {
				l = append(l, s[from:to])
			}
		}
	}
	return l
}

// crumbs is a text that is thick with names, and what is nearly one.
func crumbs(r *rand.Rand, pieces int) string {
	var out strings.Builder
	for range pieces {
		switch r.Intn(6) {
		case 0, 1:
			out.WriteString(documented(1+r.Intn(6), r.Uint64()))
		case 2:
			out.WriteString(documentedPrefixes[1+r.Intn(6)])
		case 3:
			out.WriteString(documentedPrefixes[1+r.Intn(6)] + "-")
		case 4:
			out.WriteString(fmt.Sprintf("%016x", r.Uint64())[r.Intn(16):])
		default:
			out.WriteByte("PGTIOUSL-09af FgG="[r.Intn(18)])
		}
	}
	return out.String()
}

func TestFindOfDrawnTexts(t *testing.T) {
	r := rand.New(rand.NewSource(2))
	for range 2000 {
		s := crumbs(r, r.Intn(9))
		checkFind(t, s, lying(s)...)
	}
	for range 20000 {
		s := crumbs(r, r.Intn(40))
		checkFind(t, s, within.FindAllString(s, -1)...)
	}
}

func TestFindOfLongTexts(t *testing.T) {
	r := rand.New(rand.NewSource(3))
	s := crumbs(r, 100000)
	checkFind(t, s, within.FindAllString(s, -1)...)
	checkFind(t, strings.Repeat("-", 1<<20))
	checkFind(t, strings.Repeat("PGT-", 1<<18))
	checkFind(t, strings.Repeat("0", 1<<20))
	checkFind(t, strings.Repeat("PGTIOU", 1<<18)+"-0000000000000001", "PGTIOU-0000000000000001")
}

// P12.3

func TestNext(t *testing.T) {
	m := New([]uint64{1, 0xff, 1 << 63, 0, 5, 6})
	checkNext(t, m, api.TGT, free, "TGT-0000000000000001", api.OK, 5)
	checkNext(t, m, api.ST, free, "ST-00000000000000ff", api.OK, 4)
	checkNext(t, m, api.PT, free, "PT-8000000000000000", api.OK, 3)
	checkNext(t, m, api.PGT, free, "PGT-0000000000000000", api.OK, 2)
	checkNext(t, m, api.IOU, free, "PGTIOU-0000000000000005", api.OK, 1)
	checkNext(t, m, api.LT, free, "LT-0000000000000006", api.OK, 0)
	checkNext(t, m, api.LT, free, "", api.ErrNone, 0)
	checkNext(t, m, api.LT, free, "", api.ErrNone, 0)
}

func TestNextOfATakenName(t *testing.T) {
	m := New([]uint64{1, 2, 2})
	asked := []string{}
	taken := func(name string) bool {
		asked = append(asked, name)
		return name != "ST-0000000000000002"
	}
	checkNext(t, m, api.ST, taken, "", api.ErrTwice, 2)
	checkNext(t, m, api.ST, taken, "ST-0000000000000002", api.OK, 1)
	// The mint has no names of its own: the same draw makes the same one.
	checkNext(t, m, api.ST, taken, "ST-0000000000000002", api.OK, 0)
	checkNext(t, m, api.ST, taken, "", api.ErrNone, 0)
	if want := []string{"ST-0000000000000001", "ST-0000000000000002", "ST-0000000000000002"}; !slices.Equal(asked, want) {
		t.Errorf("asked %q, want %q", asked, want)
	}
}

func TestNextUsesTheLastDrawUpWhereItIsTaken(t *testing.T) {
	m := New([]uint64{1})
	checkNext(t, m, api.ST, func(string) bool { return true }, "", api.ErrTwice, 0)
	checkNext(t, m, api.ST, free, "", api.ErrNone, 0)
}

func TestNextOfNoKindAsksAndUsesNothing(t *testing.T) {
	asked := 0
	taken := func(string) bool {
		asked++
		return true
	}
	m, empty := New([]uint64{1}), New(nil)
	for _, kind := range others {
		checkNext(t, m, kind, taken, "", api.ErrKind, 1)
		checkNext(t, empty, kind, taken, "", api.ErrKind, 0)
	}
	for _, kind := range kinds {
		checkNext(t, empty, kind, taken, "", api.ErrNone, 0)
	}
	if asked != 0 {
		t.Error("asked", asked, "times")
	}
	checkNext(t, m, api.ST, free, "ST-0000000000000001", api.OK, 0)
}

func TestTheDrawIsUsedUpAheadOfAsking(t *testing.T) {
	m := New([]uint64{1, 2})
	left := -1
	var inner string
	taken := func(string) bool {
		left = m.Left()
		inner, _ = m.Next(api.LT, free)
		m.Feed([]uint64{3})
		return false
	}
	checkNext(t, m, api.ST, taken, "ST-0000000000000001", api.OK, 1)
	if left != 1 || inner != "LT-0000000000000002" {
		t.Errorf("%d were left, and %q was told", left, inner)
	}
	checkNext(t, m, api.ST, free, "ST-0000000000000003", api.OK, 0)
}

func TestLeftAndFeed(t *testing.T) {
	for _, m := range []*Mint{New(nil), New([]uint64{})} {
		if m.Left() != 0 {
			t.Error(m.Left())
		}
		m.Feed(nil)
		m.Feed([]uint64{})
		checkNext(t, m, api.ST, free, "", api.ErrNone, 0)
		m.Feed([]uint64{7})
		m.Feed([]uint64{8, 9})
		m.Feed(nil)
		if m.Left() != 3 {
			t.Error(m.Left())
		}
		checkNext(t, m, api.ST, free, "ST-0000000000000007", api.OK, 2)
		m.Feed([]uint64{10})
		checkNext(t, m, api.ST, free, "ST-0000000000000008", api.OK, 2)
		checkNext(t, m, api.ST, free, "ST-0000000000000009", api.OK, 1)
		checkNext(t, m, api.ST, free, "ST-000000000000000a", api.OK, 0)
	}
}

// Each call is held against a list of draws that is kept by hand.
func TestDrawnRunsOfCalls(t *testing.T) {
	r := rand.New(rand.NewSource(4))
	for range 300 {
		left := draws(r, r.Intn(4))
		m := New(left)
		for range 60 {
			if r.Intn(4) == 0 {
				more := draws(r, r.Intn(5))
				m.Feed(more)
				left = slices.Concat(left, more)
				continue
			}
			kind, isTaken := r.Intn(9)-1, r.Intn(3) == 0
			want, wantE := "", api.OK
			var wantAsked, asked []string
			switch {
			case kind < 1 || kind > 6:
				wantE = api.ErrKind
			case len(left) == 0:
				wantE = api.ErrNone
			default:
				wantAsked = []string{documented(kind, left[0])}
				left = left[1:]
				want = wantAsked[0]
				if isTaken {
					want, wantE = "", api.ErrTwice
				}
			}
			checkNext(t, m, kind, func(name string) bool {
				asked = append(asked, name)
				return isTaken
			}, want, wantE, len(left))
			if !slices.Equal(asked, wantAsked) {
				t.Fatalf("asked %q, want %q", asked, wantAsked)
			}
		}
	}
}

// P12.4

func TestUnlikeDrawsOrKindsMakeUnlikeNames(t *testing.T) {
	type made struct {
		kind int
		draw uint64
	}
	r := rand.New(rand.NewSource(5))
	of := map[string]made{}
	for _, draw := range slices.Concat(edges(), draws(r, 20000)) {
		for _, kind := range kinds {
			name, _ := Name(kind, draw)
			x := made{kind, draw}
			if other, ok := of[name]; ok && other != x {
				t.Fatalf("%v and %v are both %q", other, x, name)
			}
			of[name] = x
		}
	}
}

func TestNoNameLiesWithinAnotherOne(t *testing.T) {
	var names []string
	for _, kind := range kinds {
		for _, draw := range []uint64{0, 1, 16, 1 << 60, 0x0123456789abcdef, math.MaxUint64} {
			name, _ := Name(kind, draw)
			names = append(names, name)
		}
	}
	for _, a := range names {
		checkFind(t, a, a)
		for _, b := range names {
			if a != b && strings.Contains(a, b) {
				t.Errorf("%q lies within %q", b, a)
			}
			// Side by side they make no third one.
			checkFind(t, a+b, a, b)
		}
	}
}

// R5, R6

func TestDrawsAreMemoryOfTheMint(t *testing.T) {
	room := []uint64{1, 2, 3, 4}
	first, more := room[:1], room[1:2]
	m := New(first)
	other := New(first)
	m.Feed(more)
	other.Feed([]uint64{9})
	if !slices.Equal(room, []uint64{1, 2, 3, 4}) {
		t.Error(room)
	}
	clear(room)
	checkNext(t, m, api.ST, free, "ST-0000000000000001", api.OK, 1)
	checkNext(t, m, api.ST, free, "ST-0000000000000002", api.OK, 0)
	checkNext(t, other, api.ST, free, "ST-0000000000000001", api.OK, 1)
	checkNext(t, other, api.ST, free, "ST-0000000000000009", api.OK, 0)
	if !slices.Equal(room, []uint64{0, 0, 0, 0}) {
		t.Error(room)
	}
}

func TestAnswersAreTheSameAgain(t *testing.T) {
	const s = "TGT-0000000000000001 ST-0000000000000002"
	l := Find(s)
	clear(l)
	checkFind(t, s, "TGT-0000000000000001", "ST-0000000000000002")
	a, b := New([]uint64{1, 2}), New([]uint64{1, 2})
	for _, want := range []string{"PGT-0000000000000001", "PGT-0000000000000002"} {
		x, _ := a.Next(api.PGT, free)
		y, _ := b.Next(api.PGT, free)
		if x != want || y != want {
			t.Errorf("%q and %q, want %q", x, y, want)
		}
	}
}
