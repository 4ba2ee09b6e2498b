package cookie

import (
	"fmt"
	"math"
	"math/rand"
	"regexp"
	"slices"
	"strings"
	"testing"

	"matricula/api"
)

func pairs(texts ...string) []api.Pair {
	var l []api.Pair
	for i := 0; i < len(texts); i += 2 {
		l = append(l, api.Pair{Name: texts[i], Value: texts[i+1]})
	}
	return l
}

func pick(r *rand.Rand, l []string) string { return l[r.Intn(len(l))] }

const (
	token = `[-0-9A-Za-z]+`
	value = `[!#-+\--:<-\[\]-~]*`
)

var (
	tokenForm = regexp.MustCompile(`^` + token + `$`)
	valueForm = regexp.MustCompile(`^` + value + `$`)
	pieceForm = regexp.MustCompile(`^ *(` + token + `)=(` + value + `) *$`)
	emptyForm = regexp.MustCompile(`^ *$`)
	setForm   = regexp.MustCompile(`^(` + token + `)=(` + value + `); Path=(/` + value + `)(; Max-Age=(0|[1-9][0-9]{0,7}))?(; Secure)?(; HttpOnly)?$`)
)

// sentByForms tells Sent by regular expressions, piece by piece.
func sentByForms(s string) ([]api.Pair, api.Errno) {
	var l []api.Pair
	for _, piece := range strings.Split(s, ";") {
		if emptyForm.MatchString(piece) {
			continue
		}
		if len(l) == 20 {
			return nil, api.ErrFull
		}
		p := pieceForm.FindStringSubmatch(piece)
		if p == nil {
			return nil, api.ErrByte
		}
		l = append(l, api.Pair{Name: p[1], Value: p[2]})
	}
	return l, api.OK
}

// readByForm tells Read by a regular expression.
func readByForm(s string) (api.Cookie, api.Errno) {
	p := setForm.FindStringSubmatch(s)
	if p == nil {
		return api.Cookie{}, api.ErrByte
	}
	c := api.Cookie{Name: p[1], Value: p[2], Path: p[3], Age: -1, Secure: p[6] != "", Http: p[7] != ""}
	if p[4] != "" {
		fmt.Sscanf(p[5], "%d", &c.Age)
	}
	return c, api.OK
}

func rightByForms(c api.Cookie) bool {
	return tokenForm.MatchString(c.Name) && valueForm.MatchString(c.Value) && strings.HasPrefix(c.Path, "/") && valueForm.MatchString(c.Path) && c.Age >= -1 && c.Age <= 99999999
}

// drawnCookies can be, or nearly so.
func drawnCookies(n int) []api.Cookie {
	names := []string{"a", "b", "CASTGC", "A-1", "-", "0", "Path", "content-length", "", "a.b", "a=b", "a b", "a;b"}
	values := []string{"", "1", "=", "a=b", "TGT-0000000000000001", "/", "Path=/", "!#~", ";", "a b", "\"x\"", ",", "\x7f"}
	paths := []string{"/", "/cas", "/cas/", "//", "/a=b", "/Max-Age=0", "/?", "/!#~", "", "cas", "/;", "/ ", "/\x80"}
	ages := []int{-1, -1, -1, 0, 0, 1, 10, 99999999, -2, -99999999, 100000000, math.MaxInt, math.MinInt}
	r := rand.New(rand.NewSource(1))
	l := make([]api.Cookie, n)
	for i := range l {
		// Most of them without the last five, so that more can be.
		fewer := 5
		if r.Intn(4) == 0 {
			fewer = 0
		}
		l[i] = api.Cookie{Name: pick(r, names[:len(names)-fewer]), Value: pick(r, values[:len(values)-fewer]), Path: pick(r, paths[:len(paths)-fewer]), Age: ages[r.Intn(len(ages)-fewer)], Secure: r.Intn(2) == 0, Http: r.Intn(2) == 0}
	}
	return l
}

// eachByte calls f with each byte, told whether it may be in a token, and in a value.
func eachByte(f func(c string, inToken, inValue bool)) {
	for n := range 256 {
		c := string([]byte{byte(n)})
		inToken := n >= 'a' && n <= 'z' || n >= 'A' && n <= 'Z' || n >= '0' && n <= '9' || n == '-'
		inValue := n >= 33 && n <= 126 && n != '"' && n != ',' && n != ';' && n != '\\'
		f(c, inToken, inValue)
	}
}

// P4.1

func TestSent(t *testing.T) {
	for i, x := range []struct {
		s    string
		want []api.Pair
	}{
		{"", nil},
		{" ", nil},
		{";", nil},
		{" ; ;;  ;", nil},
		{"a=1; b=; ;c=x=y", pairs("a", "1", "b", "", "c", "x=y")},
		{"a=1;b=2", pairs("a", "1", "b", "2")},
		{"  a=1  ;  b=2  ", pairs("a", "1", "b", "2")},
		{";a=1;", pairs("a", "1")},
		// The order, the case and the number of cookies are kept.
		{"b=1; a=2; B=3; b=1", pairs("b", "1", "a", "2", "B", "3", "b", "1")},
		{"a==", pairs("a", "=")},
		{"a= ;b= ", pairs("a", "", "b", "")},
		{"-=!#$%&'()*+-./:<=>?@[]^_`{|}~", pairs("-", "!#$%&'()*+-./:<=>?@[]^_`{|}~")},
		{"Path=/; Max-Age=0", pairs("Path", "/", "Max-Age", "0")},
	} {
		if l, e := Sent(x.s); !slices.Equal(l, x.want) || e != api.OK {
			t.Errorf("%d: Sent(%q) = %v, %v", i, x.s, l, e)
		}
	}
}

func TestSentRefuses(t *testing.T) {
	for _, s := range []string{"a", "=", "=1", "a=1;b", "a=1;=2", "b;a=1", "a =1", "a= 1", "a b=1", "a=b c", "a=\"1\"", "a=1,b=2", "a=\\", "a=1\t;b=2", "\ta=1", "\t", "a=1;\r\n", "a_b=1", "a.b=1", "a:b=1", "\u00e9=1", "a=\u00e9", "\u212a=1", "a=\x00", "HttpOnly"} {
		if l, e := Sent(s); len(l) != 0 || e != api.ErrByte {
			t.Errorf("Sent(%q) = %v, %v", s, l, e)
		}
	}
}

func TestEachByteThatIsSent(t *testing.T) {
	check := func(s string, want []api.Pair, ok bool) {
		t.Helper()
		e := api.OK
		if !ok {
			want, e = nil, api.ErrByte
		}
		if l, ge := Sent(s); !slices.Equal(l, want) || ge != e {
			t.Errorf("Sent(%q) = %v, %v", s, l, ge)
		}
	}
	eachByte(func(c string, inToken, inValue bool) {
		// A ; or an = there cuts another piece, or another name.
		if c != ";" && c != "=" {
			check("a"+c+"b=1", pairs("a"+c+"b", "1"), inToken)
			check("z=y; a"+c+"b=1", pairs("z", "y", "a"+c+"b", "1"), inToken)
		}
		if c != ";" {
			check("a=x"+c+"y", pairs("a", "x"+c+"y"), inValue)
			check("a=x"+c+"y;b=2", pairs("a", "x"+c+"y", "b", "2"), inValue)
		}
	})
}

func TestHowManyMayBeSent(t *testing.T) {
	full := strings.Repeat("a=1; ", api.MaxCookies)
	all := slices.Repeat(pairs("a", "1"), api.MaxCookies)
	for i, x := range []struct {
		s    string
		want []api.Pair
		e    api.Errno
	}{
		{full, all, api.OK},
		{full + " ; ;;", all, api.OK},
		{"; ;" + full, all, api.OK},
		{full + "a=1", nil, api.ErrFull},
		{"b=2;" + full, nil, api.ErrFull},
		// Of one piece ErrFull, of several the first one.
		{full + "b", nil, api.ErrFull},
		{full + "\x00", nil, api.ErrFull},
		{full + "a=1; b", nil, api.ErrFull},
		{"b;" + full + "a=1", nil, api.ErrByte},
		{strings.Repeat("a=1;", api.MaxCookies-1) + "b;a=1", nil, api.ErrByte},
		{strings.Repeat("a=1;", api.MaxCookies-1) + "b;b", nil, api.ErrByte},
	} {
		if l, e := Sent(x.s); !slices.Equal(l, x.want) || e != x.e {
			t.Errorf("%d: %v, %v", i, l, e)
		}
	}
}

func TestSentOfDrawnHeaders(t *testing.T) {
	r := rand.New(rand.NewSource(2))
	pieces := []string{"a=1", "b=", "c=x=y", " a=1 ", "CASTGC=TGT-1", "-=~", "", " ", "a", "=", "a b=1", "a=\"", "a=1,b", "a\t=1", "\xff=", "a=\xff"}
	count := map[api.Errno]int{}
	for range 40000 {
		fewer := 8 * min(1, r.Intn(8))
		l := make([]string, r.Intn(40))
		for i := range l {
			l[i] = pick(r, pieces[:len(pieces)-fewer])
		}
		s := strings.Join(l, ";")
		want, e := sentByForms(s)
		if got, ge := Sent(s); !slices.Equal(got, want) || ge != e {
			t.Fatalf("Sent(%q) = %v, %v, want %v, %v", s, got, ge, want, e)
		}
		count[e]++
	}
	if count[api.OK] < 3000 || count[api.ErrByte] < 3000 || count[api.ErrFull] < 3000 {
		t.Error(count)
	}
}

func TestLine(t *testing.T) {
	for i, x := range []struct {
		l    []api.Pair
		want string
	}{
		{nil, ""},
		{[]api.Pair{}, ""},
		{pairs("a", "1"), "a=1"},
		{pairs("b", "", "a", "x=y", "b", "2"), "b=; a=x=y; b=2"},
		// It tells what it is told, whether or not that can be sent.
		{pairs("", "", "a b", "\";\"", "", "x"), "=; a b=\";\"; =x"},
		{slices.Repeat(pairs("a", "1"), api.MaxCookies+1), strings.Repeat("a=1; ", api.MaxCookies) + "a=1"},
	} {
		if s := Line(x.l); s != x.want {
			t.Errorf("%d: Line(%v) = %q", i, x.l, s)
		}
	}
}

// P4.2

func TestSetAndRead(t *testing.T) {
	for i, x := range []struct {
		c    api.Cookie
		want string
	}{
		{api.Cookie{Name: "CASTGC", Value: "TGT-1", Path: "/cas", Age: -1, Secure: true, Http: true}, "CASTGC=TGT-1; Path=/cas; Secure; HttpOnly"},
		{api.Cookie{Name: "CASTGC", Path: "/", Secure: true, Http: true}, "CASTGC=; Path=/; Max-Age=0; Secure; HttpOnly"},
		{api.Cookie{Name: "a", Value: "b", Path: "/", Age: -1}, "a=b; Path=/"},
		{api.Cookie{Name: "a", Value: "b", Path: "/", Age: -1, Secure: true}, "a=b; Path=/; Secure"},
		{api.Cookie{Name: "a", Value: "b", Path: "/", Age: -1, Http: true}, "a=b; Path=/; HttpOnly"},
		{api.Cookie{Name: "a", Value: "b", Path: "/", Age: 1}, "a=b; Path=/; Max-Age=1"},
		{api.Cookie{Name: "a", Value: "b", Path: "/", Age: 10, Secure: true}, "a=b; Path=/; Max-Age=10; Secure"},
		{api.Cookie{Name: "a", Value: "b", Path: "/", Age: 99999999, Http: true}, "a=b; Path=/; Max-Age=99999999; HttpOnly"},
		// What looks like a mark, but has no space, is part of a name, a value or a path.
		{api.Cookie{Name: "Path", Value: "=Path=/=", Path: "/=HttpOnly", Age: -1}, "Path==Path=/=; Path=/=HttpOnly"},
		{api.Cookie{Name: "Secure", Value: "Max-Age=1", Path: "/Max-Age=1", Age: 2}, "Secure=Max-Age=1; Path=/Max-Age=1; Max-Age=2"},
		{api.Cookie{Name: "content-length", Path: "//!#[]~", Age: -1}, "content-length=; Path=//!#[]~"},
	} {
		if s, e := Set(x.c); s != x.want || e != api.OK {
			t.Errorf("%d: Set(%+v) = %q, %v", i, x.c, s, e)
		}
		if c, e := Read(x.want); c != x.c || e != api.OK {
			t.Errorf("%d: Read(%q) = %+v, %v", i, x.want, c, e)
		}
	}
}

func TestReadRefuses(t *testing.T) {
	for _, s := range []string{
		"", ";", "; ", "=", "a", "a=", "a=b", "a=b;", "a=b; ", "Path=/", "; Path=/", "=; Path=/", "=b; Path=/", "a; Path=/", "a b=; Path=/", "a.b=; Path=/", "a=b c; Path=/", "a=\"b\"; Path=/", "a=b;c; Path=/", " a=b; Path=/",
		"a=b; Path", "a=b; Path=", "a=b; Path=x", "a=b; path=/", "a=b;Path=/", "a=b;  Path=/", "a=b; Path=/ ", "a=b; Path=/;", "a=b; Path=/; ", "a=b; Path=/ x", "a=b; Path=/,", "a=b; Path=/; Path=/", "a=b; Secure; Path=/",
		"a=b; Path=/; Max-Age", "a=b; Path=/; Max-Age=", "a=b; Path=/; Max-Age=-1", "a=b; Path=/; Max-Age=-0", "a=b; Path=/; Max-Age=+0", "a=b; Path=/; Max-Age=00", "a=b; Path=/; Max-Age=01", "a=b; Path=/; Max-Age=1_0", "a=b; Path=/; Max-Age=0x1", "a=b; Path=/; Max-Age= 1", "a=b; Path=/; Max-Age=1 ", "a=b; Path=/; Max-Age=x", "a=b; Path=/; Max-Age=100000000", "a=b; Path=/; Max-Age=9223372036854775807", "a=b; Path=/; Max-Age=9223372036854775808", "a=b; Path=/; Max-Age=18446744073709551616", "a=b; Path=/; Max-Age=-2", "a=b; Path=/; Max-Age=1; Max-Age=1", "a=b; Path=/; max-age=1",
		"a=b; Path=/; Secure; Max-Age=1", "a=b; Path=/; HttpOnly; Secure", "a=b; Path=/; HttpOnly; Max-Age=1", "a=b; Path=/; Secure; Secure", "a=b; Path=/; HttpOnly; HttpOnly", "a=b; Path=/; Secure;HttpOnly", "a=b; Path=/; Secure ", "a=b; Path=/; secure", "a=b; Path=/; HTTPONLY", "a=b; Path=/; Secure=1", "a=b; Path=/; Secure; x", "a=b; Path=/; SameSite=Lax", "a=b; Path=/;; Secure",
		"a=b; Max-Age=1; Path=/", "a=b; Path=/\r\n", "a=b; Path=/\x00", "a=b; Path=/\u00e9",
	} {
		if c, e := Read(s); c != (api.Cookie{}) || e != api.ErrByte {
			t.Errorf("Read(%q) = %+v, %v", s, c, e)
		}
	}
}

func TestRight(t *testing.T) {
	for i, x := range []struct {
		c    api.Cookie
		want bool
	}{
		{api.Cookie{}, false},
		{api.Cookie{Name: "a", Path: "/"}, true},
		{api.Cookie{Path: "/"}, false},
		{api.Cookie{Name: "a"}, false},
		{api.Cookie{Name: "a", Path: "cas"}, false},
		{api.Cookie{Name: "a", Path: "cas/"}, false},
		{api.Cookie{Name: "a", Path: " /"}, false},
		{api.Cookie{Name: "a", Path: "/", Age: -1}, true},
		{api.Cookie{Name: "a", Path: "/", Age: -2}, false},
		{api.Cookie{Name: "a", Path: "/", Age: 99999999}, true},
		{api.Cookie{Name: "a", Path: "/", Age: 100000000}, false},
		{api.Cookie{Name: "a", Path: "/", Age: math.MaxInt}, false},
		{api.Cookie{Name: "a", Path: "/", Age: math.MinInt}, false},
		// No name is one that a request may not have, and nothing is too long.
		{api.Cookie{Name: "Transfer-Encoding", Path: "/"}, true},
		{api.Cookie{Name: strings.Repeat("a", 5000), Value: strings.Repeat("b", 5000), Path: "/" + strings.Repeat("c", 5000)}, true},
	} {
		checkRight(t, i, x.c, x.want)
	}
	eachByte(func(c string, inToken, inValue bool) {
		checkRight(t, 100, api.Cookie{Name: c, Path: "/"}, inToken)
		checkRight(t, 101, api.Cookie{Name: "a" + c + "b", Path: "/"}, inToken)
		checkRight(t, 102, api.Cookie{Name: "a", Value: c, Path: "/"}, inValue)
		checkRight(t, 103, api.Cookie{Name: "a", Value: "a" + c + "b", Path: "/"}, inValue)
		checkRight(t, 104, api.Cookie{Name: "a", Path: "/" + c}, inValue)
		checkRight(t, 105, api.Cookie{Name: "a", Path: "/a" + c + "b"}, inValue)
		checkRight(t, 106, api.Cookie{Name: "a", Path: c}, c == "/")
		checkRight(t, 107, api.Cookie{Name: "a", Path: c + "/"}, c == "/")
	})
}

// checkRight holds Right against want, and Set and a jar, which must refuse what can't be.
func checkRight(t *testing.T, i int, c api.Cookie, want bool) {
	t.Helper()
	e := api.OK
	if !want {
		e = api.ErrArg
	}
	if got := Right(c); got != want {
		t.Errorf("%d: Right(%+v) = %v", i, c, got)
	}
	if s, ge := Set(c); ge != e || (s == "") != (e != api.OK) {
		t.Errorf("%d: Set(%+v) = %q, %v", i, c, s, ge)
	}
	j := New()
	if ge := j.Put(c); ge != e || len(j.All()) > 0 && !want {
		t.Errorf("%d: Put(%+v) = %v", i, c, ge)
	}
}

func TestRightOfDrawnCookies(t *testing.T) {
	count := map[bool]int{}
	for i, c := range drawnCookies(20000) {
		want := rightByForms(c)
		checkRight(t, i, c, want)
		count[want]++
	}
	if count[true] < 3000 || count[false] < 3000 {
		t.Error(count)
	}
}

func TestReadOfDrawnTexts(t *testing.T) {
	r := rand.New(rand.NewSource(3))
	pieces := []string{"; Path=/", "; Path=/cas", "; Max-Age=0", "; Max-Age=12", "; Max-Age=", "; Secure", "; HttpOnly", "; ", ";", " ", "0", "=", "/", "x"}
	count := map[api.Errno]int{}
	for range 100000 {
		s := pick(r, []string{"a=b", "a=", "a==", "a", "=b", ""})
		if r.Intn(3) > 0 {
			s += pick(r, pieces[:2])
		}
		for range r.Intn(4) {
			s += pick(r, pieces)
		}
		want, e := readByForm(s)
		if c, ge := Read(s); c != want || ge != e {
			t.Fatalf("Read(%q) = %+v, %v, want %+v, %v", s, c, ge, want, e)
		}
		count[e]++
	}
	if count[api.OK] < 3000 || count[api.ErrByte] < 3000 {
		t.Error(count)
	}
}

// P4.3

func put(t *testing.T, j *Jar, c api.Cookie, want api.Errno) {
	t.Helper()
	if e := j.Put(c); e != want {
		t.Errorf("Put(%+v) = %v", c, e)
	}
}

func holds(t *testing.T, j *Jar, want ...api.Cookie) {
	t.Helper()
	if l := j.All(); !slices.Equal(l, want) {
		t.Errorf("the jar holds %+v, not %+v", l, want)
	}
}

func TestANewJarIsEmpty(t *testing.T) {
	j := New()
	holds(t, j)
	if l := j.Pairs("/", true); len(l) != 0 {
		t.Error(l)
	}
	put(t, j, api.Cookie{Name: "a", Path: "/", Age: 1}, api.OK)
	holds(t, New())
}

func TestPut(t *testing.T) {
	j := New()
	a := api.Cookie{Name: "a", Value: "1", Path: "/cas", Age: -1, Secure: true}
	b := api.Cookie{Name: "b", Value: "2", Path: "/cas", Age: 5, Http: true}
	below := api.Cookie{Name: "a", Value: "3", Path: "/cas/", Age: -1}
	big := api.Cookie{Name: "A", Value: "4", Path: "/cas", Age: -1}
	for _, c := range []api.Cookie{a, b, below, big} {
		put(t, j, c, api.OK)
	}
	holds(t, j, a, b, below, big)
	// One of the same name and path goes, wherever it lies, and the new one lies behind all.
	newer := api.Cookie{Name: "b", Value: "5", Path: "/cas", Age: 99999999}
	put(t, j, newer, api.OK)
	holds(t, j, a, below, big, newer)
	put(t, j, newer, api.OK)
	holds(t, j, a, below, big, newer)
	put(t, j, a, api.OK)
	holds(t, j, below, big, newer, a)
	// What can't be changes nothing, even where it has the name and the path of another.
	put(t, j, api.Cookie{Name: "a", Value: ";", Path: "/cas", Age: 0}, api.ErrArg)
	put(t, j, api.Cookie{Name: "a", Path: "/cas", Age: -2}, api.ErrArg)
	holds(t, j, below, big, newer, a)
}

func TestAnAgeOfNothingTakesOut(t *testing.T) {
	j := New()
	a, b, c := api.Cookie{Name: "a", Path: "/", Age: -1}, api.Cookie{Name: "b", Path: "/", Age: 1}, api.Cookie{Name: "a", Path: "/x", Age: 1}
	for _, x := range []api.Cookie{a, b, c} {
		put(t, j, x, api.OK)
	}
	put(t, j, api.Cookie{Name: "c", Path: "/"}, api.OK)
	put(t, j, api.Cookie{Name: "b", Path: "/x"}, api.OK)
	holds(t, j, a, b, c)
	// Its value, and what it asks, play no part.
	put(t, j, api.Cookie{Name: "a", Value: "x", Path: "/", Secure: true, Http: true}, api.OK)
	holds(t, j, b, c)
	put(t, j, api.Cookie{Name: "a", Path: "/"}, api.OK)
	holds(t, j, b, c)
	put(t, j, api.Cookie{Name: "a", Path: "/x"}, api.OK)
	put(t, j, api.Cookie{Name: "b", Path: "/"}, api.OK)
	holds(t, j)
}

func TestHowManyAJarHolds(t *testing.T) {
	j := New()
	var want []api.Cookie
	for i := range api.MaxCookies {
		c := api.Cookie{Name: "n", Path: fmt.Sprint("/", i), Age: -1}
		put(t, j, c, api.OK)
		want = append(want, c)
	}
	holds(t, j, want...)
	more := api.Cookie{Name: "m", Path: "/0", Age: 1}
	put(t, j, more, api.ErrFull)
	put(t, j, api.Cookie{Name: "m", Path: "x", Age: 1}, api.ErrArg)
	holds(t, j, want...)
	// One that is taken out, or takes the place of another, needs no room.
	put(t, j, api.Cookie{Name: "m", Path: "/0"}, api.OK)
	holds(t, j, want...)
	again := api.Cookie{Name: "n", Value: "x", Path: "/0", Age: 1}
	put(t, j, again, api.OK)
	want = append(want[1:], again)
	holds(t, j, want...)
	put(t, j, api.Cookie{Name: "n", Path: "/7"}, api.OK)
	want = slices.Delete(want, 6, 7)
	holds(t, j, want...)
	put(t, j, more, api.OK)
	holds(t, j, append(want, more)...)
	put(t, j, api.Cookie{Name: "l", Path: "/0", Age: 1}, api.ErrFull)
}

func TestPairs(t *testing.T) {
	for i, x := range []struct {
		at, path string
		want     bool
	}{
		{"/cas", "/cas/login", true},
		{"/cas", "/castle", false},
		{"/cas", "/cas", true},
		{"/cas", "/cas/", true},
		{"/cas", "/cas//", true},
		{"/cas", "/ca", false},
		{"/cas", "/", false},
		{"/cas", "", false},
		{"/cas", "/CAS", false},
		{"/cas", "/x/cas/login", false},
		{"/cas", "/cas?x", false},
		{"/cas", "/cas\x00", false},
		{"/cas", "cas", false},
		{"/cas/", "/cas", false},
		{"/cas/", "/cas/", true},
		{"/cas/", "/cas/login", true},
		{"/cas/", "/cas//", true},
		{"/", "/", true},
		{"/", "/x", true},
		{"/", "//", true},
		{"/", "/\x00", true},
		{"/", "", false},
		{"/", "x/", false},
		{"//", "/", false},
		{"//", "//x", true},
		{"/a/b", "/a", false},
		{"/a/b", "/a/b/c", true},
		{"/a/b", "/a/bc", false},
	} {
		for _, asks := range []bool{false, true} {
			for _, secure := range []bool{false, true} {
				j := New()
				put(t, j, api.Cookie{Name: "a", Value: "1", Path: x.at, Age: -1, Secure: asks}, api.OK)
				var want []api.Pair
				if x.want && (secure || !asks) {
					want = pairs("a", "1")
				}
				if l := j.Pairs(x.path, secure); !slices.Equal(l, want) {
					t.Errorf("%d: of %q, that asks %v, at %q, %v: %v", i, x.at, asks, x.path, secure, l)
				}
			}
		}
	}
}

func TestPairsAreToldAsTheyLie(t *testing.T) {
	j := New()
	for _, c := range []api.Cookie{
		{Name: "b", Value: "1", Path: "/", Age: -1, Http: true},
		{Name: "a", Value: "2", Path: "/cas", Age: 9, Secure: true},
		{Name: "b", Path: "/cas/", Age: 1},
		{Name: "z", Value: "3", Path: "/z", Age: -1},
		{Name: "a", Value: "4", Path: "/", Age: -1},
	} {
		put(t, j, c, api.OK)
	}
	if l := j.Pairs("/cas/x", true); !slices.Equal(l, pairs("b", "1", "a", "2", "b", "", "a", "4")) {
		t.Error(l)
	}
	if l := j.Pairs("/cas/x", false); !slices.Equal(l, pairs("b", "1", "b", "", "a", "4")) {
		t.Error(l)
	}
	put(t, j, api.Cookie{Name: "b", Value: "5", Path: "/", Age: -1}, api.OK)
	if l := j.Pairs("/cas", true); !slices.Equal(l, pairs("a", "2", "a", "4", "b", "5")) {
		t.Error(l)
	}
}

// putByHand tells Put of a list, one by one.
func putByHand(l []api.Cookie, c api.Cookie) ([]api.Cookie, api.Errno) {
	if !rightByForms(c) {
		return l, api.ErrArg
	}
	var out []api.Cookie
	for _, old := range l {
		if old.Name != c.Name || old.Path != c.Path {
			out = append(out, old)
		}
	}
	if c.Age == 0 {
		return out, api.OK
	}
	if len(out) >= 20 {
		return l, api.ErrFull
	}
	return append(out, c), api.OK
}

func TestJarsOfDrawnCookies(t *testing.T) {
	count := map[api.Errno]int{}
	for start, l := 0, drawnCookies(40000); start < len(l); start += 200 {
		j := New()
		var want []api.Cookie
		for _, c := range l[start : start+200] {
			var e api.Errno
			want, e = putByHand(want, c)
			put(t, j, c, e)
			holds(t, j, want...)
			count[e]++
		}
	}
	if count[api.OK] < 3000 || count[api.ErrArg] < 3000 || count[api.ErrFull] < 1000 {
		t.Error(count)
	}
}

// P4.4

func TestWhatIsSetIsRead(t *testing.T) {
	texts := map[string]api.Cookie{}
	for _, c := range drawnCookies(20000) {
		s, e := Set(c)
		if e != api.OK {
			continue
		}
		if got, e := Read(s); got != c || e != api.OK {
			t.Fatalf("Read(%q) = %+v, %v, want %+v", s, got, e, c)
		}
		if other, ok := texts[s]; ok && other != c {
			t.Fatalf("%+v and %+v are both set by %q", c, other, s)
		}
		texts[s] = c
	}
	if len(texts) < 1000 {
		t.Error("too few:", len(texts))
	}
}

func TestWhatIsSentIsRead(t *testing.T) {
	r := rand.New(rand.NewSource(4))
	names, values := []string{"a", "B-", "0", "CASTGC", "Path"}, []string{"", "1", "=", "a=b", "!#~", "/Path=/"}
	for n := range 20 * (api.MaxCookies + 1) {
		l := make([]api.Pair, n/20)
		for i := range l {
			l[i] = api.Pair{Name: pick(r, names), Value: pick(r, values)}
		}
		if got, e := Sent(Line(l)); !slices.Equal(got, l) || e != api.OK {
			t.Fatalf("Sent of the Line of %v = %v, %v", l, got, e)
		}
	}
}

func TestWhatAJarSendsIsRead(t *testing.T) {
	j := New()
	for _, c := range drawnCookies(200) {
		j.Put(c)
		for _, path := range []string{"/", "/cas/x", "//"} {
			l := j.Pairs(path, true)
			if got, e := Sent(Line(l)); !slices.Equal(got, l) || e != api.OK {
				t.Fatalf("Sent of the Line of %v = %v, %v", l, got, e)
			}
		}
	}
}

// R1, R3, R5

func TestAnyBytesAreAnswered(t *testing.T) {
	r := rand.New(rand.NewSource(5))
	const common = "aA1-==;;  //\",\\"
	for range 40000 {
		b := make([]byte, r.Intn(12))
		for i := range b {
			b[i] = common[r.Intn(len(common))]
			if r.Intn(8) == 0 {
				b[i] = byte(r.Intn(256))
			}
		}
		some := string(b)
		want, e := sentByForms(some)
		if l, ge := Sent(some); !slices.Equal(l, want) || ge != e {
			t.Fatalf("Sent(%q) = %v, %v, want %v, %v", some, l, ge, want, e)
		}
		for _, s := range []string{some, "a=" + some + "; Path=/", "a=b; Path=/" + some, "a=b; Path=/; Max-Age=" + some} {
			want, e := readByForm(s)
			if c, ge := Read(s); c != want || ge != e {
				t.Fatalf("Read(%q) = %+v, %v, want %+v, %v", s, c, ge, want, e)
			}
		}
		c := api.Cookie{Name: some, Value: some, Path: some}
		if Right(c) != rightByForms(c) {
			t.Fatalf("Right(%+v) = %v", c, Right(c))
		}
		New().Pairs(some, true)
	}
}

func TestLongOnesAreAnswered(t *testing.T) {
	long := strings.Repeat("a", 1<<20)
	if l, e := Sent(long + "=" + long); e != api.OK || len(l) != 1 || l[0].Value != long {
		t.Error(e)
	}
	if l, e := Sent(strings.Repeat("; ", 1<<20)); e != api.OK || len(l) != 0 {
		t.Error(e)
	}
	if l, e := Sent(strings.Repeat("a=1;", 1<<20)); e != api.ErrFull || len(l) != 0 {
		t.Error(e)
	}
	if c, e := Read(strings.Repeat("a=b; Path=/; Max-Age=1", 1<<16)); e != api.ErrByte || c != (api.Cookie{}) {
		t.Error(e)
	}
	if c, e := Read("a=b; Path=/; Max-Age=" + strings.Repeat("9", 1<<20)); e != api.ErrByte || c != (api.Cookie{}) {
		t.Error(e)
	}
}

func TestWhatAJarTellsIsItsOwn(t *testing.T) {
	j := New()
	a, b := api.Cookie{Name: "a", Value: "1", Path: "/", Age: -1}, api.Cookie{Name: "b", Value: "2", Path: "/", Age: -1}
	put(t, j, a, api.OK)
	put(t, j, b, api.OK)
	first, sent := j.All(), j.Pairs("/", true)
	for _, l := range [][]api.Cookie{j.All(), append(j.All()[:1], api.Cookie{})} {
		clear(l)
	}
	clear(j.Pairs("/", true))
	holds(t, j, a, b)
	// And what was told stays as it was told, whatever becomes of the jar.
	put(t, j, api.Cookie{Name: "a", Path: "/"}, api.OK)
	put(t, j, api.Cookie{Name: "c", Path: "/", Age: 1}, api.OK)
	if !slices.Equal(first, []api.Cookie{a, b}) || !slices.Equal(sent, pairs("a", "1", "b", "2")) {
		t.Error(first, sent)
	}
	l := pairs("a", "1", "b", "2")
	Line(l)
	if !slices.Equal(l, pairs("a", "1", "b", "2")) {
		t.Error(l)
	}
}
