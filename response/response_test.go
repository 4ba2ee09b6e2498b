package response

import (
	"fmt"
	"math"
	"math/rand"
	"regexp"
	"slices"
	"strconv"
	"strings"
	"testing"

	"matricula/api"
)

const top = "HTTP/1.1 200 OK\r\n"

func pairs(texts ...string) []api.Pair {
	var l []api.Pair
	for i := 0; i < len(texts); i += 2 {
		l = append(l, api.Pair{Name: texts[i], Value: texts[i+1]})
	}
	return l
}

func pick(r *rand.Rand, l []string) string { return l[r.Intn(len(l))] }

func same(a, b api.Response) bool {
	return a.Status == b.Status && slices.Equal(a.Headers, b.Headers) && a.Body == b.Body
}

// lines are bytes as the document tells them, with the ends of lines left out.
func lines(texts ...string) string { return strings.Join(texts, "\r\n") }

const (
	token = `[-0-9A-Za-z]+`
	text  = `(?:|[!-~]|[!-~][ -~]*[!-~])`
)

var (
	tokenForm  = regexp.MustCompile(`^` + token + `$`)
	textForm   = regexp.MustCompile(`^` + text + `$`)
	lengthForm = regexp.MustCompile(`^(?i:content-length)$`)
	headerForm = regexp.MustCompile(`(` + token + `): (` + text + `)\r\n`)
	readForm   = regexp.MustCompile(`^HTTP/1\.1 (?:(200) OK|(302) Found|(400) Bad Request|(403) Forbidden|(404) Not Found|(405) Method Not Allowed|(503) Service Unavailable)\r\n((?:` + token + `: ` + text + `\r\n)*?)Content-Length: (0|[1-9][0-9]{0,3})\r\n\r\n((?s).*)$`)
)

func rightByForms(r api.Response) bool {
	if !slices.Contains([]int{200, 302, 400, 403, 404, 405, 503}, r.Status) || len(r.Headers) > 32 || len(r.Body) > 8192 {
		return false
	}
	for _, h := range r.Headers {
		if !tokenForm.MatchString(h.Name) || !textForm.MatchString(h.Value) || lengthForm.MatchString(h.Name) {
			return false
		}
	}
	return true
}

// readByForms tells Read by regular expressions.
func readByForms(s string) (api.Response, api.Errno) {
	p := readForm.FindStringSubmatch(s)
	if p == nil {
		return api.Response{}, api.ErrByte
	}
	r := api.Response{Body: p[10]}
	r.Status, _ = strconv.Atoi(strings.Join(p[1:8], ""))
	for _, h := range headerForm.FindAllStringSubmatch(p[8], -1) {
		r.Headers = append(r.Headers, api.Pair{Name: h[1], Value: h[2]})
	}
	if p[9] != fmt.Sprint(len(r.Body)) || !rightByForms(r) {
		return api.Response{}, api.ErrByte
	}
	return r, api.OK
}

// drawnResponses can be, or nearly so.
func drawnResponses(n int) []api.Response {
	statuses := []int{200, 302, 400, 403, 404, 405, 503, 0, 100, 201, 500, -200, math.MaxInt}
	names := []string{"a", "A", "Set-Cookie", "Location", "Content-Type", "-", "0", "Transfer-Encoding", "content-lengths", "Content-Length", "content-LENGTH", "", "a b", "a:", "a_b", "\r\n"}
	texts := []string{"", "x", "a: b", ":", "0", "http://a/x?b=c", "!  ~", "Content-Length: 0", "\"", " x", "x ", " ", "\t", "x\r\ny", "\u00e9", "\x7f"}
	bodies := []string{"", "no", "\r\n", "\r\n\r\n", "a: b\r\n\r\n", "\x00\xff", top, strings.Repeat("x", 10), strings.Repeat("y", 8191), strings.Repeat("z", 8192), strings.Repeat("z", 8193)}
	r := rand.New(rand.NewSource(1))
	l := make([]api.Response, n)
	for i := range l {
		// Most of them without the last ones, so that more can be.
		fewer := min(1, r.Intn(4))
		x := api.Response{Status: statuses[r.Intn(len(statuses)-6*fewer)], Body: pick(r, bodies[:len(bodies)-fewer])}
		most := 4
		if r.Intn(8) == 0 {
			most = 35
		}
		for range r.Intn(most) {
			x.Headers = append(x.Headers, api.Pair{Name: pick(r, names[:len(names)-7*fewer]), Value: pick(r, texts[:len(texts)-7*fewer])})
		}
		l[i] = x
	}
	return l
}

// P5.1

func TestReason(t *testing.T) {
	want := map[int]string{200: "OK", 302: "Found", 400: "Bad Request", 403: "Forbidden", 404: "Not Found", 405: "Method Not Allowed", 503: "Service Unavailable"}
	for status := -1000; status < 2000; status++ {
		if got := Reason(status); got != want[status] {
			t.Errorf("Reason(%d) = %q", status, got)
		}
		checkRight(t, status, api.Response{Status: status}, want[status] != "")
	}
	for _, status := range []int{math.MinInt, math.MaxInt, 1<<32 + 200, -1 << 40} {
		if got := Reason(status); got != "" {
			t.Errorf("Reason(%d) = %q", status, got)
		}
		checkRight(t, status, api.Response{Status: status}, false)
	}
}

// checkRight holds Right against want, and Write, which must refuse what can't be.
func checkRight(t *testing.T, i int, r api.Response, want bool) {
	t.Helper()
	if got := Right(r); got != want {
		t.Errorf("%d: Right of %d, %.200q is %v", i, r.Status, r.Headers, got)
	}
	s, e := Write(r)
	if want && (e != api.OK || s == "") || !want && (e != api.ErrArg || s != "") {
		t.Errorf("%d: Write of %d, %.200q = %.200q, %v", i, r.Status, r.Headers, s, e)
	}
}

func TestRight(t *testing.T) {
	with := func(name, value string) api.Response {
		return api.Response{Status: 200, Headers: pairs(name, value)}
	}
	long := strings.Repeat("a", 1<<16)
	for i, x := range []struct {
		r    api.Response
		want bool
	}{
		{api.Response{}, false},
		{api.Response{Status: 200}, true},
		{api.Response{Status: 200, Headers: []api.Pair{}}, true},
		{with("a", ""), true},
		{with("", ""), false},
		{with("", "a"), false},
		{with("a", "b c"), true},
		{with("a", " b"), false},
		{with("a", "b "), false},
		{with("a", " "), false},
		{with("a", "b\r\nc: d"), false},
		{with("a", "b\nc"), false},
		{with("a", "b\tc"), false},
		{with("a", "\u00e9"), false},
		{with("a b", "c"), false},
		{with("a:", "c"), false},
		{with("\u212a", "c"), false},
		// The length is told by Write alone, however its name is written.
		{with("Content-Length", "0"), false},
		{with("content-length", "0"), false},
		{with("CONTENT-length", ""), false},
		{with("Content-Lengt", "0"), true},
		{with("Content-Lengths", "0"), true},
		{with("X-Content-Length", "0"), true},
		{with("ContentLength", "0"), true},
		{api.Response{Status: 200, Headers: pairs("a", "b", "content-length", "0", "c", "d")}, false},
		{api.Response{Status: 200, Headers: pairs("a", "b", "c", "d", "e", " ")}, false},
		// What a request may not have, a response may; and no header is too long.
		{with("Transfer-Encoding", "chunked"), true},
		{with(long, long), true},
		{api.Response{Status: 200, Headers: slices.Repeat(pairs("a", "b"), api.MaxHeaders)}, true},
		{api.Response{Status: 200, Headers: slices.Repeat(pairs("a", "b"), api.MaxHeaders+1)}, false},
		{api.Response{Status: 200, Body: strings.Repeat("\x00", api.MaxBody)}, true},
		{api.Response{Status: 200, Body: strings.Repeat("\x00", api.MaxBody+1)}, false},
		{api.Response{Status: 503, Headers: slices.Repeat(pairs("a", "b"), api.MaxHeaders), Body: strings.Repeat("x", api.MaxBody)}, true},
	} {
		checkRight(t, i, x.r, x.want)
	}
}

func TestEachByteOfAHeader(t *testing.T) {
	for n := range 256 {
		c := string([]byte{byte(n)})
		inToken := n >= 'a' && n <= 'z' || n >= 'A' && n <= 'Z' || n >= '0' && n <= '9' || n == '-'
		inText := n >= 32 && n <= 126
		for i, x := range []struct {
			name, value string
			want        bool
		}{
			{c, "", inToken},
			{"a" + c, "", inToken},
			{c + "b", "", inToken},
			{"a" + c + "b", "", inToken},
			{"a", "b" + c + "d", inText},
			{"a", c, inText && c != " "},
			{"a", c + "b", inText && c != " "},
			{"a", "b" + c, inText && c != " "},
		} {
			checkRight(t, 10*n+i, api.Response{Status: 404, Headers: pairs(x.name, x.value)}, x.want)
			checkRight(t, 10*n+i, api.Response{Status: 404, Headers: pairs("x", "y", x.name, x.value, "z", "")}, x.want)
		}
		checkRight(t, n, api.Response{Status: 404, Body: c}, true)
	}
}

func TestRightOfDrawnResponses(t *testing.T) {
	count := map[bool]int{}
	for i, r := range drawnResponses(20000) {
		want := rightByForms(r)
		checkRight(t, i, r, want)
		count[want]++
	}
	if count[true] < 3000 || count[false] < 1000 {
		t.Error(count)
	}
}

func TestWriteAndRead(t *testing.T) {
	for i, x := range []struct {
		r    api.Response
		want string
	}{
		{Page(200, "text/plain", "no"), lines("HTTP/1.1 200 OK", "Content-Type: text/plain", "Content-Length: 2", "", "no")},
		{Found("http://x/", "a=1"), lines("HTTP/1.1 302 Found", "Location: http://x/", "Set-Cookie: a=1", "Content-Length: 0", "", "")},
		{api.Response{Status: 200}, lines("HTTP/1.1 200 OK", "Content-Length: 0", "", "")},
		{api.Response{Status: 400}, lines("HTTP/1.1 400 Bad Request", "Content-Length: 0", "", "")},
		{api.Response{Status: 403}, lines("HTTP/1.1 403 Forbidden", "Content-Length: 0", "", "")},
		{api.Response{Status: 404}, lines("HTTP/1.1 404 Not Found", "Content-Length: 0", "", "")},
		{api.Response{Status: 405}, lines("HTTP/1.1 405 Method Not Allowed", "Content-Length: 0", "", "")},
		{api.Response{Status: 503}, lines("HTTP/1.1 503 Service Unavailable", "Content-Length: 0", "", "")},
		// Headers are written as they are, in their order, and those without a text with the space.
		{api.Response{Status: 200, Headers: pairs("b", "", "A", "x: y", "b", ":", "a", "1  2")}, lines("HTTP/1.1 200 OK", "b: ", "A: x: y", "b: :", "a: 1  2", "Content-Length: 0", "", "")},
		{api.Response{Status: 200, Headers: pairs("a", "Content-Length: 0")}, lines("HTTP/1.1 200 OK", "a: Content-Length: 0", "Content-Length: 0", "", "")},
		// A body may look like anything.
		{api.Response{Status: 200, Body: "\r\n"}, lines("HTTP/1.1 200 OK", "Content-Length: 2", "", "\r\n")},
		{api.Response{Status: 200, Body: "\r\n\r\n"}, lines("HTTP/1.1 200 OK", "Content-Length: 4", "", "\r\n\r\n")},
		{api.Response{Status: 200, Body: "a: b\r\nContent-Length: 0\r\n\r\n"}, lines("HTTP/1.1 200 OK", "Content-Length: 27", "", "a: b\r\nContent-Length: 0\r\n\r\n")},
		{api.Response{Status: 200, Body: "\x00\xff"}, lines("HTTP/1.1 200 OK", "Content-Length: 2", "", "\x00\xff")},
		// Its length is told in bytes.
		{api.Response{Status: 200, Body: "\u00e9\u20ac"}, lines("HTTP/1.1 200 OK", "Content-Length: 5", "", "\u00e9\u20ac")},
		{api.Response{Status: 200, Body: strings.Repeat("x", 10)}, lines("HTTP/1.1 200 OK", "Content-Length: 10", "", strings.Repeat("x", 10))},
		{api.Response{Status: 200, Body: strings.Repeat("x", 8192)}, lines("HTTP/1.1 200 OK", "Content-Length: 8192", "", strings.Repeat("x", 8192))},
		{api.Response{Status: 200, Headers: slices.Repeat(pairs("a", "b"), 32)}, lines("HTTP/1.1 200 OK", strings.Repeat("a: b\r\n", 32)+"Content-Length: 0", "", "")},
	} {
		if s, e := Write(x.r); s != x.want || e != api.OK {
			t.Errorf("%d: Write = %.200q, %v", i, s, e)
		}
		if r, e := Read(x.want); !same(r, x.r) || e != api.OK {
			t.Errorf("%d: Read(%.200q) = %.200v, %v", i, x.want, r, e)
		}
	}
}

// P5.2

func TestReadRefuses(t *testing.T) {
	for i, s := range []string{
		"", " ", "\r\n", "\r\n\r\n", "\n\n", "x", top, top + "\r\n", "HTTP/1.1", "HTTP/1.1 200 OK", "HTTP/1.1 200 OK\n", "GET / HTTP/1.1\r\n\r\n",
		top + "Content-Length: 0", top + "Content-Length: 0\r\n", top + "Content-Length: 0\r\n\r", top + "Content-Length: 0\n\n", "HTTP/1.1 200 OK\nContent-Length: 0\n\n",
		// The length.
		top + "Content-Length: 00\r\n\r\n", top + "Content-Length: 1\r\n\r\n", top + "Content-Length: 0\r\n\r\nx", top + "Content-Length: 01\r\n\r\nx", top + "Content-Length: +1\r\n\r\nx", top + "Content-Length: -0\r\n\r\n", top + "Content-Length: \r\n\r\n", top + "Content-Length: x\r\n\r\n", top + "Content-Length: 0x0\r\n\r\n", top + "Content-Length:0\r\n\r\n", top + "Content-Length:  0\r\n\r\n", top + "Content-Length: 0 \r\n\r\n", top + "Content-Length : 0\r\n\r\n", top + " Content-Length: 0\r\n\r\n", top + "content-length: 0\r\n\r\n", top + "Content-length: 0\r\n\r\n", top + "Content-Length: 2\r\n\r\nx", top + "Content-Length: 18446744073709551616\r\n\r\n",
		top + "Content-Length: 0\r\nContent-Length: 0\r\n\r\n", top + "content-length: 0\r\nContent-Length: 0\r\n\r\n", top + "Content-Length: 0\r\na: b\r\n\r\n", top + "a: b\r\n\r\n",
		// The headers.
		top + "a:b\r\nContent-Length: 0\r\n\r\n", top + "a\r\nContent-Length: 0\r\n\r\n", top + ": b\r\nContent-Length: 0\r\n\r\n", top + "a:\r\nContent-Length: 0\r\n\r\n", top + "a:  b\r\nContent-Length: 0\r\n\r\n", top + "a: b \r\nContent-Length: 0\r\n\r\n", top + "a:  \r\nContent-Length: 0\r\n\r\n", top + "a : b\r\nContent-Length: 0\r\n\r\n", top + "a:\tb\r\nContent-Length: 0\r\n\r\n", top + " a: b\r\nContent-Length: 0\r\n\r\n", top + "a: b\nc: d\r\nContent-Length: 0\r\n\r\n", top + "a: b\rContent-Length: 0\r\n\r\n", top + "a: b\r\r\nContent-Length: 0\r\n\r\n", top + "a: b\r\n c\r\nContent-Length: 0\r\n\r\n", top + "a_b: c\r\nContent-Length: 0\r\n\r\n", top + "a: \u00e9\r\nContent-Length: 0\r\n\r\n", top + "\r\nContent-Length: 0\r\n\r\n", top + strings.Repeat("a: b\r\n", 33) + "Content-Length: 0\r\n\r\n",
		// The first line.
		"HTTP/1.1 200 Ok\r\nContent-Length: 0\r\n\r\n", "HTTP/1.1 200 ok\r\nContent-Length: 0\r\n\r\n", "HTTP/1.1 200 Found\r\nContent-Length: 0\r\n\r\n", "HTTP/1.1 200\r\nContent-Length: 0\r\n\r\n", "HTTP/1.1 200 \r\nContent-Length: 0\r\n\r\n", "HTTP/1.1 200  OK\r\nContent-Length: 0\r\n\r\n", "HTTP/1.1  200 OK\r\nContent-Length: 0\r\n\r\n", "HTTP/1.1 200 OK \r\nContent-Length: 0\r\n\r\n", " HTTP/1.1 200 OK\r\nContent-Length: 0\r\n\r\n", "HTTP/1.1 0200 OK\r\nContent-Length: 0\r\n\r\n", "HTTP/1.1 +200 OK\r\nContent-Length: 0\r\n\r\n", "HTTP/1.0 200 OK\r\nContent-Length: 0\r\n\r\n", "http/1.1 200 OK\r\nContent-Length: 0\r\n\r\n", "HTTP/1.1200 OK\r\nContent-Length: 0\r\n\r\n", "200 OK\r\nContent-Length: 0\r\n\r\n", "HTTP/1.1 HTTP/1.1 200 OK\r\nContent-Length: 0\r\n\r\n", "HTTP/1.1 201 Created\r\nContent-Length: 0\r\n\r\n", "HTTP/1.1 500 \r\nContent-Length: 0\r\n\r\n", "HTTP/1.1 0 \r\nContent-Length: 0\r\n\r\n", "HTTP/1.1 405 Method not allowed\r\nContent-Length: 0\r\n\r\n", "HTTP/1.1 405 Method\r\nContent-Length: 0\r\n\r\n", "HTTP/1.1 x OK\r\nContent-Length: 0\r\n\r\n", "HTTP/1.1 18446744073709551816 OK\r\nContent-Length: 0\r\n\r\n", "Content-Length: 0\r\n\r\n", "Content-Length: 0\r\n" + top + "\r\n", "\r\n" + top + "Content-Length: 0\r\n\r\n",
		// The body.
		top + "Content-Length: 8193\r\n\r\n" + strings.Repeat("x", 8193),
	} {
		if r, e := Read(s); !same(r, api.Response{}) || e != api.ErrByte {
			t.Errorf("%d: Read(%.200q) = %.200v, %v", i, s, r, e)
		}
	}
}

func TestReadOfDrawnBytes(t *testing.T) {
	r := rand.New(rand.NewSource(2))
	firsts := []string{"HTTP/1.1 200 OK", "HTTP/1.1 302 Found", "HTTP/1.1 400 Bad Request", "HTTP/1.1 403 Forbidden", "HTTP/1.1 404 Not Found", "HTTP/1.1 405 Method Not Allowed", "HTTP/1.1 503 Service Unavailable", "HTTP/1.1 200 Found", "HTTP/1.1 201 OK", ""}
	heads := []string{"a: b", "a: ", "A-1: x: y", "x: Content-Length: 0", "Content-Length: 0", "content-length: 2", "a:b", "a", " a: b", ""}
	lengths := []string{"Content-Length: 0", "Content-Length: 2", "Content-Length: 2", "Content-Length: 4", "Content-Length: 02", "Content-Length: 3"}
	bodies := []string{"", "no", "\r\n", "\r\n\r\n", "x\r\n"}
	count := map[api.Errno]int{}
	for range 100000 {
		l := []string{pick(r, firsts[:len(firsts)-3*min(1, r.Intn(4))])}
		for range r.Intn(4) {
			l = append(l, pick(r, heads[:len(heads)-6*min(1, r.Intn(8))]))
		}
		s := lines(append(l, pick(r, lengths), "", pick(r, bodies))...)
		want, e := readByForms(s)
		if got, ge := Read(s); !same(got, want) || ge != e {
			t.Fatalf("Read(%q) = %v, %v, want %v, %v", s, got, ge, want, e)
		}
		count[e]++
	}
	if count[api.OK] < 3000 || count[api.ErrByte] < 3000 {
		t.Error(count)
	}
}

// Whatever is left out, doubled or changed in bytes that read is read otherwise, or not at all.
func TestReadOfChangedBytes(t *testing.T) {
	whole, e := Write(api.Response{Status: 405, Headers: pairs("Set-Cookie", "a=1", "x", "", "a", "b c"), Body: "a\r\n\r\nb"})
	if e != api.OK {
		t.Fatal(e)
	}
	check := func(s string) {
		t.Helper()
		want, e := readByForms(s)
		if got, ge := Read(s); !same(got, want) || ge != e {
			t.Fatalf("Read(%q) = %v, %v, want %v, %v", s, got, ge, want, e)
		}
	}
	for i := range len(whole) {
		check(whole[:i])
		check(whole[i:])
		check(whole[:i] + whole[i+1:])
		check(whole[:i] + whole[i:i+1] + whole[i:])
		for c := range 256 {
			check(whole[:i] + string([]byte{byte(c)}) + whole[i+1:])
		}
	}
}

// P5.3

func TestGet(t *testing.T) {
	l := pairs("Set-Cookie", "a=1", "x", "", "set-cookie", "b=2", "SET-COOKIE", "a=1", "X", "y", "", "none", "a_", "odd", "\u212a", "kelvin")
	for i, x := range []struct {
		name string
		want []string
	}{
		{"Set-Cookie", []string{"a=1", "b=2", "a=1"}},
		{"sET-cOOKIE", []string{"a=1", "b=2", "a=1"}},
		{"x", []string{"", "y"}},
		{"Set-Cooki", nil},
		{"Set-Cookies", nil},
		{"Set_Cookie", nil},
		{"y", nil},
		{"k", nil},
		{"", []string{"none"}},
		// It tells of any response, whether or not that can be.
		{"A_", []string{"odd"}},
		{"a\x7f", nil},
	} {
		if got := Get(api.Response{Headers: l}, x.name); !slices.Equal(got, x.want) {
			t.Errorf("%d: Get of %q = %q", i, x.name, got)
		}
	}
	if got := Get(api.Response{Status: 200, Body: "x: y"}, "x"); len(got) != 0 {
		t.Error(got)
	}
	// The length is no header of a response, though it is written among them.
	r, _ := Read(top + "Content-Length: 0\r\n\r\n")
	if got := Get(r, "Content-Length"); len(got) != 0 {
		t.Error(got)
	}
	if got := Get(api.Response{Headers: slices.Repeat(pairs("a", "b"), 100)}, "A"); len(got) != 100 {
		t.Error(len(got))
	}
}

func TestPage(t *testing.T) {
	for i, x := range []struct {
		status     int
		kind, body string
	}{{200, "text/html", "<p>"}, {404, "", ""}, {0, "\r\n", "x"}, {-1, " a", strings.Repeat("x", 9000)}, {math.MaxInt, "text/plain", "\x00"}} {
		want := api.Response{Status: x.status, Headers: pairs("Content-Type", x.kind), Body: x.body}
		if got := Page(x.status, x.kind, x.body); !same(got, want) {
			t.Errorf("%d: %.200v", i, got)
		}
	}
}

func TestFound(t *testing.T) {
	many := slices.Repeat([]string{"a=1"}, 40)
	for i, x := range []struct {
		to      string
		cookies []string
	}{{"http://a/x", nil}, {"http://a/x", []string{}}, {"/", []string{"b=2"}}, {"x", []string{"b=2", "", "b=2", "a"}}, {"", []string{"\r\n"}}, {" \n", many}} {
		want := api.Response{Status: 302, Headers: pairs("Location", x.to)}
		for _, c := range x.cookies {
			want.Headers = append(want.Headers, api.Pair{Name: "Set-Cookie", Value: c})
		}
		got := Found(x.to, x.cookies...)
		if !same(got, want) {
			t.Errorf("%d: %v", i, got)
		}
		if l := Get(got, "set-cookie"); !slices.Equal(l, x.cookies) {
			t.Errorf("%d: %v", i, l)
		}
	}
}

// P5.4

func TestWhatIsWrittenReadsAsItWas(t *testing.T) {
	texts := map[string]api.Response{}
	for _, r := range drawnResponses(20000) {
		s, e := Write(r)
		if e != api.OK {
			continue
		}
		if got, e := Read(s); !same(got, r) || e != api.OK {
			t.Fatalf("Read(%.300q) = %.300v, %v, want %.300v", s, got, e, r)
		}
		if other, ok := texts[s]; ok && !same(other, r) {
			t.Fatalf("%.300v and %.300v are both written %.300q", r, other, s)
		}
		texts[s] = r
	}
	if len(texts) < 3000 {
		t.Error("too few:", len(texts))
	}
}

// R1, R3, R5

func TestAnyBytesAreAnswered(t *testing.T) {
	r := rand.New(rand.NewSource(3))
	pieces := []string{"\r\n", "\r\n", "\r\n", "\r\n\r\n", top, "HTTP/1.1 ", "200 ", "302 Found", "Content-Length: ", "0", "1", "a", ": ", ":", " ", "\r", "\n", "\x00", "\xff"}
	for range 100000 {
		s := ""
		for range r.Intn(12) {
			s += pick(r, pieces)
		}
		for _, s := range []string{s, top + s, top + "Content-Length: 0\r\n\r\n" + s, top + s + "Content-Length: 0\r\n\r\n"} {
			want, e := readByForms(s)
			if got, ge := Read(s); !same(got, want) || ge != e {
				t.Fatalf("Read(%q) = %v, %v, want %v, %v", s, got, ge, want, e)
			}
		}
		x := api.Response{Status: 200, Headers: pairs(s, s), Body: s}
		if Right(x) != rightByForms(x) {
			t.Fatalf("Right of %q, %q is %v", x.Headers, x.Body, Right(x))
		}
		Get(x, s)
	}
}

func TestLongOnesAreAnswered(t *testing.T) {
	for i, s := range []string{strings.Repeat("\r\n", 1<<20), top + strings.Repeat("a: b\r\n", 1<<18) + "Content-Length: 0\r\n\r\n", strings.Repeat(top, 1<<16), top + "Content-Length: 0\r\n\r\n" + strings.Repeat("x", 1<<20), "HTTP/1.1 " + strings.Repeat("2", 1<<20) + " OK\r\n\r\n"} {
		if r, e := Read(s); e != api.ErrByte || !same(r, api.Response{}) {
			t.Error(i, e)
		}
	}
	long := api.Response{Status: 200, Headers: slices.Repeat(pairs(strings.Repeat("a", 1<<16), strings.Repeat("b", 1<<16)), 32)}
	s, e := Write(long)
	if r, re := Read(s); e != api.OK || re != api.OK || !same(r, long) {
		t.Error(e, re)
	}
	if l := Get(api.Response{Headers: make([]api.Pair, 1<<16)}, ""); len(l) != 1<<16 {
		t.Error(len(l))
	}
}

func TestWhatIsHandedInIsNotChanged(t *testing.T) {
	all := pairs("a", "1", "b", "2", "c", "3")
	// There is room behind the two headers: what is written must not be laid there.
	r := api.Response{Status: 200, Headers: all[:2], Body: "x"}
	s, e := Write(r)
	if s != top+"a: 1\r\nb: 2\r\nContent-Length: 1\r\n\r\nx" || e != api.OK {
		t.Errorf("%q, %v", s, e)
	}
	none := api.Response{Status: 200, Headers: all[:0]}
	if s, e := Write(none); s != top+"Content-Length: 0\r\n\r\n" || e != api.OK {
		t.Errorf("%q, %v", s, e)
	}
	Right(r)
	clear(Get(r, "a"))
	if !slices.Equal(all, pairs("a", "1", "b", "2", "c", "3")) {
		t.Error(all)
	}
	cookies := []string{"a=1", "b=2", "c=3"}
	f := Found("x", cookies[:2]...)
	clear(f.Headers)
	if !slices.Equal(cookies, []string{"a=1", "b=2", "c=3"}) {
		t.Error(cookies)
	}
	g := Found("x", cookies...)
	clear(cookies)
	if l := Get(g, "Set-Cookie"); !slices.Equal(l, []string{"a=1", "b=2", "c=3"}) {
		t.Error(l)
	}
}

func TestAnswersAreMemoryOfTheirOwn(t *testing.T) {
	s := top + "a: b\r\nContent-Length: 0\r\n\r\n"
	first, _ := Read(s)
	second, _ := Read(s)
	clear(first.Headers)
	if !slices.Equal(second.Headers, pairs("a", "b")) {
		t.Error(second)
	}
	p, q := Page(200, "k", ""), Page(200, "k", "")
	clear(p.Headers)
	if !slices.Equal(q.Headers, pairs("Content-Type", "k")) {
		t.Error(q)
	}
}
