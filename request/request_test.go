package request

import (
	"fmt"
	"math/rand"
	"reflect"
	"regexp"
	"slices"
	"strings"
	"testing"

	"matricula/api"
	"matricula/pct"
)

const (
	get     = "GET / HTTP/1.1\r\n"
	letters = "abcdefghijklmnopqrstuvwxyzABCDEFGHIJKLMNOPQRSTUVWXYZ"
	digits  = "0123456789"
)

func same(a, b api.Request) bool {
	return a.Method == b.Method && a.Target == b.Target && a.Body == b.Body && slices.Equal(a.Headers, b.Headers)
}

func isNone(r api.Request) bool { return same(r, api.Request{}) }

func pairs(texts ...string) []api.Pair {
	var l []api.Pair
	for i := 0; i < len(texts); i += 2 {
		l = append(l, api.Pair{Name: texts[i], Value: texts[i+1]})
	}
	return l
}

func lengthOf(s string) api.Pair {
	return api.Pair{Name: "Content-Length", Value: fmt.Sprint(len(s))}
}

// tight writes any request, right or not, without a space around a header's text.
func tight(r api.Request) string {
	s := r.Method + " " + r.Target + " HTTP/1.1\r\n"
	for _, h := range r.Headers {
		s += h.Name + ":" + h.Value + "\r\n"
	}
	return s + "\r\n" + r.Body
}

var (
	firstForm  = regexp.MustCompile(`^([A-Z]+) (/[!-~]*) HTTP/1\.1$`)
	headerForm = regexp.MustCompile(`^([-0-9A-Za-z]+):[ \t]*(|[!-~]|[!-~][ -~]*[!-~])[ \t]*$`)
	codedForm  = regexp.MustCompile(`^[tT][rR][aA][nN][sS][fF][eE][rR]-[eE][nN][cC][oO][dD][iI][nN][gG]$`)
	lengthForm = regexp.MustCompile(`^[cC][oO][nN][tT][eE][nN][tT]-[lL][eE][nN][gG][tT][hH]$`)
)

// parseByForms tells Parse by regular expressions, line by line.
func parseByForms(s string) (api.Request, api.Errno) {
	var r api.Request
	if len(s) > 4096 {
		return r, api.ErrLong
	}
	i := strings.Index(s, "\r\n")
	if i < 0 {
		return r, api.ErrShort
	}
	first := firstForm.FindStringSubmatch(s[:i])
	if first == nil {
		return r, api.ErrLine
	}
	if first[1] != "GET" && first[1] != "POST" {
		return r, api.ErrMethod
	}
	var l []api.Pair
	for s = s[i+2:]; !strings.HasPrefix(s, "\r\n"); s = s[i+2:] {
		i = strings.Index(s, "\r\n")
		if i < 0 {
			return r, api.ErrShort
		}
		if len(l) == 32 {
			return r, api.ErrFull
		}
		h := headerForm.FindStringSubmatch(s[:i])
		if h == nil {
			return r, api.ErrHeader
		}
		l = append(l, api.Pair{Name: h[1], Value: h[2]})
	}
	body, e := bodyByForms(l, s[2:])
	if e != api.OK {
		return r, e
	}
	return api.Request{Method: first[1], Target: first[2], Headers: l, Body: body}, api.OK
}

func bodyByForms(l []api.Pair, body string) (string, api.Errno) {
	n, told := 0, 0
	for _, h := range l {
		if codedForm.MatchString(h.Name) {
			return "", api.ErrHeader
		}
		if !lengthForm.MatchString(h.Name) {
			continue
		}
		told++
		if !regexp.MustCompile(`^[0-9]{1,4}$`).MatchString(h.Value) || told > 1 {
			return "", api.ErrHeader
		}
		fmt.Sscanf(h.Value, "%d", &n)
	}
	if len(body) < n {
		return "", api.ErrShort
	}
	if len(body) > n {
		return "", api.ErrTail
	}
	return body, api.OK
}

func pick(r *rand.Rand, l []string) string { return l[r.Intn(len(l))] }

// drawnBytes are bytes of requests, or of what is nearly one.
func drawnBytes(n int) []string {
	firsts := []string{get, get, get, get, get, get, "POST /a?b=1 HTTP/1.1\r\n", "POST /%\" HTTP/1.1\r\n", "POST / HTTP/1.1\r\n", "PUT / HTTP/1.1\r\n", "G / HTTP/1.1\r\n", "GET / HTTP/1.0\r\n", "GET  / HTTP/1.1\r\n", "GET / HTTP/1.1 \r\n", "GET / HTTP/1.1\n", "GET /\t HTTP/1.1\r\n", "\r\n", ""}
	names := []string{"a", "Host", "X-1", "Cookie", "-", "a", "b", "c", "a b", "", "a_", "\u212a"}
	texts := []string{"", " ", " x", "x", "\tx y\t ", " :", "a: b", "x", "\x7f", "a\tb", "\r", "\n"}
	lengths := []string{"content-length", "Content-Length", "CONTENT-LENGTH"}
	counts := []string{"0", "1", "2", "3", " 3", "0003", "3", "3", "00003", "+3", "-0", "", "3 3", "0x3"}
	bodies := []string{"", "", "", "a", "ab", "a=1", "\r\n\r", "\x00\xff\r", "abcd"}
	r := rand.New(rand.NewSource(6))
	l := make([]string, n)
	for i := range l {
		s := pick(r, firsts)
		// Half of them without the last four, so that more are right.
		fewer := r.Intn(2) * 4
		for range r.Intn(4) {
			s += pick(r, names[:len(names)-fewer]) + ":" + pick(r, texts[:len(texts)-fewer]) + "\r\n"
		}
		for range max(0, r.Intn(6)-3) {
			s += pick(r, lengths) + ":" + pick(r, counts) + "\r\n"
		}
		switch r.Intn(12) {
		case 0:
			s += "Transfer-encoding: chunked\r\n"
		case 1:
			s += "a\r\n"
		}
		if r.Intn(10) > 0 {
			s += "\r\n" + pick(r, bodies)
		}
		l[i] = s
	}
	return l
}

// drawnRequests are right, or nearly so.
func drawnRequests(n int) []api.Request {
	methods := []string{"GET", "GET", "POST", "POST", "GET", "POST", "PUT", "get", "", "GET /x", "GET / HTTP/1.1\r\na:"}
	targets := []string{"/", "/", "/a?b=%41", "/?", "/!~", "/", "/", "", "x", "/ ", "/\x7f", "/ HTTP/1.1\r\na:b"}
	names := []string{"a", "A-1", "Host", "-", "a", "a", "b", "c", "x", "y", "transfer-encodin", "content-length", "Content-Length", "Transfer-Encoding", "", "a:", "a b", "a\r\nb"}
	texts := []string{"", "x", "x y", ":", "0", "1", "2", "x", "x", "x", " ", " x", "x ", "\t", "x\ty", "x\r\ny:z", "\x80"}
	bodies := []string{"", "", "", "", "a", "ab"}
	r := rand.New(rand.NewSource(7))
	l := make([]api.Request, n)
	for i := range l {
		q := api.Request{Method: pick(r, methods), Target: pick(r, targets), Body: pick(r, bodies)}
		// Half of them without the last seven, so that more are right.
		fewer := r.Intn(2) * 7
		for range r.Intn(4) {
			q.Headers = append(q.Headers, api.Pair{Name: pick(r, names[:len(names)-fewer]), Value: pick(r, texts[:len(texts)-fewer])})
		}
		if r.Intn(2) == 0 {
			q.Headers = append(q.Headers, lengthOf(q.Body))
		}
		l[i] = q
	}
	return l
}

// P3.1

func TestParse(t *testing.T) {
	for i, x := range []struct {
		s    string
		want api.Request
	}{
		{"GET /login?a=1 HTTP/1.1\r\nHost: x\r\n\r\n", api.Request{Method: "GET", Target: "/login?a=1", Headers: pairs("Host", "x")}},
		{"POST / HTTP/1.1\r\ncontent-length: 3\r\n\r\na=1", api.Request{Method: "POST", Target: "/", Headers: pairs("content-length", "3"), Body: "a=1"}},
		{get + "\r\n", api.Request{Method: "GET", Target: "/"}},
		{"POST /!\"#%7f?{}~// HTTP/1.1\r\n\r\n", api.Request{Method: "POST", Target: "/!\"#%7f?{}~//"}},
		// The order, the case and the number of headers are kept; spaces and tabs around a text are not.
		{get + "b:1\r\nA: 2\r\nB:\t 3 \t\r\nb: \t \r\n-:\r\n0-z:a:b : c\r\n\r\n", api.Request{Method: "GET", Target: "/", Headers: pairs("b", "1", "A", "2", "B", "3", "b", "", "-", "", "0-z", "a:b : c")}},
		// A GET may have a body, too, of any bytes; lines in it are none of the request's.
		{get + "CONTENT-length:0006\r\na:b\r\n\r\n\r\n\x00\xff\r\n", api.Request{Method: "GET", Target: "/", Headers: pairs("CONTENT-length", "0006", "a", "b"), Body: "\r\n\x00\xff\r\n"}},
		{get + "content-length: 0\r\n\r\n", api.Request{Method: "GET", Target: "/", Headers: pairs("content-length", "0")}},
		{get + "content-lengths: x\r\ntransfer-encodings: x\r\ntransfer: x\r\n\r\n", api.Request{Method: "GET", Target: "/", Headers: pairs("content-lengths", "x", "transfer-encodings", "x", "transfer", "x")}},
	} {
		if r, e := Parse(x.s); !same(r, x.want) || e != api.OK {
			t.Errorf("%d: Parse(%q) = %+v, %v", i, x.s, r, e)
		}
	}
}

func TestParseRefuses(t *testing.T) {
	for i, x := range []struct {
		s string
		e api.Errno
	}{
		{"", api.ErrShort},
		{"GET / HTTP/1.1", api.ErrShort},
		{"GET / HTTP/1.1\r", api.ErrShort},
		{"GET / HTTP/1.1\n\n", api.ErrShort},
		{"GET / HTTP/1.1\n\r", api.ErrShort},
		{"\r\n", api.ErrLine},
		{"\r\n" + get + "\r\n", api.ErrLine},
		{"GET / HTTP/1.1\n\r\n\r\n", api.ErrLine},
		{"GET / HTTP/1.1\r\r\n\r\n", api.ErrLine},
		{"GET / HTTP/1.1\na: b\r\n\r\n", api.ErrLine},
		{"GET /\r\n\r\n", api.ErrLine},
		{"GET / \r\n\r\n", api.ErrLine},
		{"GET HTTP/1.1\r\n\r\n", api.ErrLine},
		{"GET  HTTP/1.1\r\n\r\n", api.ErrLine},
		{"GET / HTTP/1.1 \r\n\r\n", api.ErrLine},
		{" GET / HTTP/1.1\r\n\r\n", api.ErrLine},
		{"GET  / HTTP/1.1\r\n\r\n", api.ErrLine},
		{"GET /  HTTP/1.1\r\n\r\n", api.ErrLine},
		{"GET\t/ HTTP/1.1\r\n\r\n", api.ErrLine},
		{"GET / / HTTP/1.1\r\n\r\n", api.ErrLine},
		{"GET a HTTP/1.1\r\n\r\n", api.ErrLine},
		{"GET http://h/ HTTP/1.1\r\n\r\n", api.ErrLine},
		{"GET * HTTP/1.1\r\n\r\n", api.ErrLine},
		{"GET / HTTP/1.0\r\n\r\n", api.ErrLine},
		{"GET / HTTP/1.11\r\n\r\n", api.ErrLine},
		{"GET / http/1.1\r\n\r\n", api.ErrLine},
		{" / HTTP/1.1\r\n\r\n", api.ErrLine},
		{"GeT / HTTP/1.1\r\n\r\n", api.ErrLine},
		{"PUT / HTTP/1.1\r\n\r\n", api.ErrMethod},
		{"HEAD / HTTP/1.1\r\n\r\n", api.ErrMethod},
		{"GETS / HTTP/1.1\r\n\r\n", api.ErrMethod},
		{"G / HTTP/1.1\r\n\r\n", api.ErrMethod},
		{"POSTGET / HTTP/1.1\r\n\r\n", api.ErrMethod},
		{get, api.ErrShort},
		{get + "a", api.ErrShort},
		{get + "a:b\r\n", api.ErrShort},
		{get + "a:b\r\n\r", api.ErrShort},
		{get + "a:b\r\n\n", api.ErrShort},
		{get + "\n\r\n", api.ErrHeader},
		{get + " \r\n\r\n", api.ErrHeader},
		{get + "a\r\n\r\n", api.ErrHeader},
		{get + ":\r\n\r\n", api.ErrHeader},
		{get + ":b\r\n\r\n", api.ErrHeader},
		{get + "a :b\r\n\r\n", api.ErrHeader},
		{get + "a:b\r\n c\r\n\r\n", api.ErrHeader},
		{get + "a:b\r\r\n\r\n", api.ErrHeader},
		{get + "a:b\nc:d\r\n\r\n", api.ErrHeader},
		{get + "a:b\tc\r\n\r\n", api.ErrHeader},
		{get + "a:\vb\r\n\r\n", api.ErrHeader},
		{get + "Transfer-Encoding: chunked\r\n\r\n", api.ErrHeader},
		{get + "transfer-encoding:\r\n\r\n", api.ErrHeader},
		{get + "a:b\r\nTRANSFER-encodinG: x\r\ncontent-length: 0\r\n\r\n", api.ErrHeader},
		{get + "content-length: 0\r\ncontent-length: 0\r\n\r\n", api.ErrHeader},
		{get + "Content-Length: 1\r\na:b\r\ncontent-lengtH: 2\r\n\r\na", api.ErrHeader},
		{get + "\r\na", api.ErrTail},
		{get + "\r\n\r\n", api.ErrTail},
		{get + "content-length: 0\r\n\r\na", api.ErrTail},
		{get + "content-length: 2\r\n\r\n", api.ErrShort},
		{get + "content-length: 2\r\n\r\na", api.ErrShort},
		{get + "content-length: 2\r\n\r\nabc", api.ErrTail},
		{get + "content-length: 9999\r\n\r\nabc", api.ErrShort},
	} {
		if r, e := Parse(x.s); e != x.e || !isNone(r) {
			t.Errorf("%d: Parse(%q) = %+v, %v, want %v", i, x.s, r, e, x.e)
		}
	}
}

func TestTheFirstErrorIsTold(t *testing.T) {
	full := get + strings.Repeat("a:b\r\n", api.MaxHeaders)
	for i, x := range []struct {
		s string
		e api.Errno
	}{
		{strings.Repeat("x", api.MaxRequest+1), api.ErrLong},
		{"PUT x HTTP/1.1", api.ErrShort},
		{"PUT x HTTP/1.1\r\n", api.ErrLine},
		{"PUT / HTTP/1.1\r\n", api.ErrMethod},
		{"PUT / HTTP/1.1\r\n?\r\n", api.ErrMethod},
		// A line that is wrong comes ahead of one that lacks; one that does not end is not looked at.
		{get + "?\r\n", api.ErrHeader},
		{get + "?\r\na", api.ErrHeader},
		{get + "?", api.ErrShort},
		{get + "?\r\n" + strings.Repeat("a:b\r\n", api.MaxHeaders), api.ErrHeader},
		{full, api.ErrShort},
		{full + "?", api.ErrShort},
		{full + "a:b", api.ErrShort},
		{full + "a:b\r\n", api.ErrFull},
		{full + "?\r\n", api.ErrFull},
		{full + "a:b\r\n?\r\n\r\n", api.ErrFull},
		{full + "Transfer-Encoding: x\r\n\r\n", api.ErrFull},
		// Which headers there are is looked at behind all lines, and ahead of the body.
		{get + "Transfer-Encoding: x\r\n", api.ErrShort},
		{get + "content-length: x\r\n", api.ErrShort},
		{get + "Transfer-Encoding: x\r\n" + strings.Repeat("a:b\r\n", api.MaxHeaders), api.ErrFull},
		{get + "content-length: 1\r\ncontent-length: 1\r\n\r\n", api.ErrHeader},
		{get + "transfer-encoding: x\r\n\r\nabc", api.ErrHeader},
		{get + "content-length: x\r\n\r\nabc", api.ErrHeader},
	} {
		if r, e := Parse(x.s); e != x.e || !isNone(r) {
			t.Errorf("%d: Parse(%.60q) = %+v, %v, want %v", i, x.s, r, e, x.e)
		}
	}
}

func TestHowManyHeadersMayBe(t *testing.T) {
	for n := range api.MaxHeaders + 3 {
		want, e := n, api.OK
		if n > api.MaxHeaders {
			want, e = 0, api.ErrFull
		}
		r, ge := Parse(get + strings.Repeat("a: b\r\n", n) + "\r\n")
		if ge != e || !slices.Equal(r.Headers, slices.Repeat(pairs("a", "b"), want)) {
			t.Errorf("%d: %+v, %v", n, r, ge)
		}
	}
}

func TestHowLongARequestMayBe(t *testing.T) {
	longTarget := "GET /" + strings.Repeat("a", api.MaxRequest-len("GET / HTTP/1.1\r\n\r\n")) + " HTTP/1.1\r\n\r\n"
	longText := get + "a:" + strings.Repeat("b", api.MaxRequest-len(get+"a:\r\n\r\n")) + "\r\n\r\n"
	longBody := get + "content-length:4057\r\n\r\n" + strings.Repeat("\x00", 4057)
	for i, s := range []string{longTarget, longText, longBody} {
		if len(s) != api.MaxRequest {
			t.Fatal(i, len(s))
		}
		want, _ := parseByForms(s)
		if r, e := Parse(s); !same(r, want) || e != api.OK {
			t.Errorf("%d: %v", i, e)
		}
		if r, e := Parse(s + "a"); !isNone(r) || e != api.ErrLong {
			t.Errorf("%d: %v", i, e)
		}
	}
	// Spaces around texts count, though they are not kept.
	s := get + "a:" + strings.Repeat(" ", api.MaxRequest-len(get+"a:\r\n\r\n")) + "\r\n\r\n"
	if r, e := Parse(s); e != api.OK || !slices.Equal(r.Headers, pairs("a", "")) {
		t.Error(r, e)
	}
	if _, e := Parse(get + "b:\r\n" + s[len(get):]); e != api.ErrLong {
		t.Error(e)
	}
}

func TestEachByteOfAFirstLine(t *testing.T) {
	for c := range 256 {
		b := string([]byte{byte(c)})
		e := api.ErrLine
		if c >= 'A' && c <= 'Z' {
			e = api.ErrMethod
		}
		for _, m := range []string{"G" + b + "T", b + "GET", "GET" + b} {
			if m == "GET" {
				continue
			}
			if r, ge := Parse(m + " / HTTP/1.1\r\n\r\n"); ge != e || !isNone(r) {
				t.Errorf("method %q: %+v, %v", m, r, ge)
			}
		}
		e = api.ErrLine
		if c >= 33 && c <= 126 {
			e = api.OK
		}
		for _, target := range []string{"/" + b, "/" + b + "x", "/x" + b} {
			r, ge := Parse("GET " + target + " HTTP/1.1\r\n\r\n")
			if ge != e || e == api.OK && r.Target != target || e != api.OK && !isNone(r) {
				t.Errorf("target %q: %+v, %v", target, r, ge)
			}
		}
		if _, ge := Parse("GET " + b + " HTTP/1.1\r\n\r\n"); (ge == api.OK) != (b == "/") {
			t.Errorf("target %q: %v", b, ge)
		}
	}
}

func TestEachByteOfAHeader(t *testing.T) {
	for c := range 256 {
		b := string([]byte{byte(c)})
		for _, name := range []string{b, "x" + b, b + "x", "x" + b + "y"} {
			e, want := api.ErrHeader, pairs()
			switch {
			case strings.Contains(letters+digits+"-", b):
				e, want = api.OK, pairs(name, "v")
			case name[0] == 'x' && b == ":":
				// The first : ends a name; what else stands there is of the text.
				e, want = api.OK, pairs("x", strings.TrimPrefix(name, "x:")+":v")
			}
			r, ge := Parse(get + name + ":v\r\n\r\n")
			if ge != e || !slices.Equal(r.Headers, want) {
				t.Errorf("name %q: %+v, %v", name, r, ge)
			}
		}
		for _, text := range []string{b, "x" + b, b + "x", "x" + b + "y"} {
			e, want := api.OK, pairs("n", strings.Trim(text, "\t "))
			if (c < 32 || c > 126) && (c != '\t' || text == "x\ty") {
				e, want = api.ErrHeader, nil
			}
			for _, around := range []string{"", " ", "\t", " \t \t"} {
				r, ge := Parse(get + "n:" + around + text + around + "\r\n\r\n")
				if ge != e || !slices.Equal(r.Headers, want) {
					t.Errorf("text %q, %q: %+v, %v", text, around, r, ge)
				}
			}
		}
	}
}

func TestEachLength(t *testing.T) {
	for n := range 4000 {
		for _, form := range []string{"%d", "%02d", "%03d", "%04d"} {
			text, body := fmt.Sprintf(form, n), strings.Repeat("b", n)
			r, e := Parse(get + "content-length:" + text + "\r\n\r\n" + body)
			if e != api.OK || r.Body != body || !slices.Equal(r.Headers, pairs("content-length", text)) {
				t.Fatalf("%s: %v", text, e)
			}
		}
	}
	for _, text := range []string{"", "-1", "+1", "1.", "1e0", "0x1", "1 1", "1,1", "1_1", "a", "00001", "10000", "99999999999999999999", "18446744073709551617"} {
		if r, e := Parse(get + "content-length: " + text + "\r\n\r\nb"); e != api.ErrHeader || !isNone(r) {
			t.Errorf("%q: %+v, %v", text, r, e)
		}
	}
	for c := range 256 {
		b := string([]byte{byte(c)})
		n, e := 0, api.ErrHeader
		switch {
		case strings.Contains(digits, b):
			n, e = 10+c-'0', api.OK
		case b == " " || b == "\t":
			n, e = 1, api.OK
		}
		if r, ge := Parse(get + "content-length: 1" + b + "\r\n\r\n" + strings.Repeat("b", n)); ge != e || len(r.Body) != n {
			t.Errorf("%q: %+v, %v", b, r, ge)
		}
	}
}

func TestParseOfDrawnBytes(t *testing.T) {
	count := map[api.Errno]int{}
	for _, s := range drawnBytes(40000) {
		want, e := parseByForms(s)
		if r, ge := Parse(s); !same(r, want) || ge != e {
			t.Fatalf("Parse(%q) = %+v, %v, want %+v, %v", s, r, ge, want, e)
		}
		count[e]++
	}
	for _, e := range []api.Errno{api.OK, api.ErrShort, api.ErrLine, api.ErrMethod, api.ErrHeader, api.ErrTail} {
		if count[e] < 1000 {
			t.Errorf("too few tell %v: %d", e, count[e])
		}
	}
}

// P3.2

func TestRight(t *testing.T) {
	full := slices.Repeat(pairs("a", "b"), api.MaxHeaders)
	for i, x := range []struct {
		r    api.Request
		want bool
	}{
		{api.Request{Method: "GET", Target: "/"}, true},
		{api.Request{Method: "POST", Target: "/!~?"}, true},
		{api.Request{Method: "GET", Target: "/", Headers: []api.Pair{}}, true},
		{api.Request{}, false},
		{api.Request{Method: "GET"}, false},
		{api.Request{Target: "/"}, false},
		{api.Request{Method: "PUT", Target: "/"}, false},
		{api.Request{Method: "get", Target: "/"}, false},
		{api.Request{Method: "GET ", Target: "/"}, false},
		{api.Request{Method: "GET", Target: "x"}, false},
		{api.Request{Method: "GET", Target: "/ "}, false},
		{api.Request{Method: "GET", Target: "/\x7f"}, false},
		{api.Request{Method: "GET", Target: "/ HTTP/1.1\r\na: b"}, false},
		{api.Request{Method: "GET", Target: "/", Headers: pairs("a", "")}, true},
		{api.Request{Method: "GET", Target: "/", Headers: pairs("a-Z", "x y:  z", "a-Z", "~")}, true},
		{api.Request{Method: "GET", Target: "/", Headers: pairs("", "b")}, false},
		{api.Request{Method: "GET", Target: "/", Headers: pairs("a:", "b")}, false},
		{api.Request{Method: "GET", Target: "/", Headers: pairs("a ", "b")}, false},
		{api.Request{Method: "GET", Target: "/", Headers: pairs("a_b", "c")}, false},
		{api.Request{Method: "GET", Target: "/", Headers: pairs("a.b", "c")}, false},
		{api.Request{Method: "GET", Target: "/", Headers: pairs("a~b", "c")}, false},
		{api.Request{Method: "GET", Target: "/", Headers: pairs("a", " ")}, false},
		{api.Request{Method: "GET", Target: "/", Headers: pairs("a", " b")}, false},
		{api.Request{Method: "GET", Target: "/", Headers: pairs("a", "b ")}, false},
		{api.Request{Method: "GET", Target: "/", Headers: pairs("a", "\tb")}, false},
		{api.Request{Method: "GET", Target: "/", Headers: pairs("a", "b\tc")}, false},
		{api.Request{Method: "GET", Target: "/", Headers: pairs("a", "b\r\nc: d")}, false},
		{api.Request{Method: "GET", Target: "/", Headers: pairs("a", "b", "c", "\x7f")}, false},
		{api.Request{Method: "GET", Target: "/", Headers: full}, true},
		{api.Request{Method: "GET", Target: "/", Headers: append(full, full[0])}, false},
		{api.Request{Method: "GET", Target: "/", Headers: pairs("Transfer-Encoding", "")}, false},
		{api.Request{Method: "GET", Target: "/", Headers: pairs("content-length", "0", "Content-Length", "0")}, false},
		{api.Request{Method: "GET", Target: "/", Headers: pairs("content-length", "x")}, false},
		{api.Request{Method: "GET", Target: "/", Headers: pairs("content-length", "00000")}, false},
		{api.Request{Method: "GET", Target: "/", Headers: pairs("content-length", "0000")}, true},
		{api.Request{Method: "GET", Target: "/", Headers: pairs("content-length", "1")}, false},
		{api.Request{Method: "GET", Target: "/", Body: "a"}, false},
		{api.Request{Method: "GET", Target: "/", Headers: pairs("Content-Length", "01"), Body: "a"}, true},
		{api.Request{Method: "GET", Target: "/", Headers: pairs("Content-Length", "1"), Body: "ab"}, false},
		{api.Request{Method: "POST", Target: "/", Headers: pairs("a", "b", "content-LENGTH", "5"), Body: "\r\n\x00\xff\r"}, true},
	} {
		e := api.OK
		if !x.want {
			e = api.ErrArg
		}
		if got := Right(x.r); got != x.want {
			t.Errorf("%d: Right(%+v) = %v", i, x.r, got)
		}
		if s, ge := Write(x.r); ge != e || (s == "") != (e != api.OK) {
			t.Errorf("%d: Write(%+v) = %q, %v", i, x.r, s, ge)
		}
	}
}

func TestWrite(t *testing.T) {
	for i, x := range []struct {
		r    api.Request
		want string
	}{
		{api.Request{Method: "GET", Target: "/"}, "GET / HTTP/1.1\r\n\r\n"},
		{api.Request{Method: "POST", Target: "/a?b", Headers: pairs("Host", "x:1", "a", "", "CONTENT-length", "003", "Host", "y"), Body: "b=2"}, "POST /a?b HTTP/1.1\r\nHost: x:1\r\na: \r\nCONTENT-length: 003\r\nHost: y\r\n\r\nb=2"},
	} {
		if s, e := Write(x.r); s != x.want || e != api.OK {
			t.Errorf("%d: Write(%+v) = %q, %v", i, x.r, s, e)
		}
	}
}

// ofSize has that many headers, and comes of that many bytes at least.
func ofSize(headers, bytes int) api.Request {
	r := api.Request{Method: "POST", Target: "/", Headers: slices.Repeat(pairs("a", "b"), headers)}
	r.Target += strings.Repeat("x", bytes-len(tight(r)))
	return r
}

func TestHowLongAWrittenOneMayBe(t *testing.T) {
	for _, n := range []int{0, 1, 2, 31, 32} {
		for less := range 40 {
			r := ofSize(n, api.MaxRequest-less)
			e := api.OK
			if n > less {
				e = api.ErrLong
			}
			s, ge := Write(r)
			if !Right(r) || ge != e || e != api.OK && s != "" || e == api.OK && len(s) != api.MaxRequest-less+n {
				t.Errorf("%d headers, %d less: %d bytes, %v", n, less, len(s), ge)
			}
			if got, e := Parse(tight(r)); !same(got, r) || e != api.OK {
				t.Errorf("%d headers, %d less: %v", n, less, e)
			}
		}
		r := ofSize(n, api.MaxRequest+1)
		if s, e := Write(r); Right(r) || s != "" || e != api.ErrArg {
			t.Errorf("%d headers, one more: %v", n, e)
		}
	}
	// What is too long by its body alone can't be either.
	body := strings.Repeat("b", 9999)
	if Right(api.Request{Method: "POST", Target: "/", Headers: []api.Pair{lengthOf(body)}, Body: body}) {
		t.Error("a body of 9999 bytes")
	}
}

func TestRightOfDrawnRequests(t *testing.T) {
	count := map[bool]int{}
	for _, r := range drawnRequests(40000) {
		got, e := parseByForms(tight(r))
		want := e == api.OK && same(got, r)
		if Right(r) != want {
			t.Fatalf("Right(%+v) = %v", r, !want)
		}
		if s, e := Write(r); want != (e == api.OK) || !want && (s != "" || e != api.ErrArg) {
			t.Fatalf("Write(%+v) = %q, %v", r, s, e)
		}
		count[want]++
	}
	if count[true] < 5000 || count[false] < 5000 {
		t.Error(count)
	}
}

// P3.3

func TestHeader(t *testing.T) {
	r := api.Request{Headers: pairs("a", "1", "B", "", "A", "2", "b", "3", "", "4", "\u212a", "5", "a", "6")}
	for i, x := range []struct {
		name, text string
		n          int
	}{
		{"a", "1", 3},
		{"A", "1", 3},
		{"b", "", 2},
		{"", "4", 1},
		{"k", "", 0},
		{"\u212a", "5", 1},
		{"aa", "", 0},
		{"c", "", 0},
	} {
		if text, n := Header(r, x.name); text != x.text || n != x.n {
			t.Errorf("%d: Header(%q) = %q, %d", i, x.name, text, n)
		}
		if text, n := Header(api.Request{}, x.name); text != "" || n != 0 {
			t.Errorf("%d: Header of none = %q, %d", i, text, n)
		}
	}
}

func TestPath(t *testing.T) {
	for target, want := range map[string]string{
		"":              "",
		"/":             "/",
		"/login":        "/login",
		"/login?a=1":    "/login",
		"/login?":       "/login",
		"/a?b?c":        "/a",
		"?a":            "",
		"/a/../%62?c/d": "/a/../%62",
		"/a%3Fb":        "/a%3Fb",
	} {
		if got := Path(api.Request{Target: target}); got != want {
			t.Errorf("Path of %q = %q", target, got)
		}
	}
}

func TestArgs(t *testing.T) {
	for i, x := range []struct {
		method, target, body string
		want                 []api.Pair
		e                    api.Errno
	}{
		{"GET", "/login?a=1", "", pairs("a", "1"), api.OK},
		{"GET", "/", "", nil, api.OK},
		{"GET", "/a=1", "", nil, api.OK},
		{"GET", "/?", "", nil, api.OK},
		{"GET", "/?a=1&&b+c=%41&a", "", pairs("a", "1", "b c", "A", "a", ""), api.OK},
		{"GET", "/?a=1?b=2", "", pairs("a", "1?b=2"), api.OK},
		{"GET", "/%?a", "", pairs("a", ""), api.OK},
		{"GET", "/?a=1", "b=2", pairs("a", "1"), api.OK},
		{"GET", "/?a=1", "%", pairs("a", "1"), api.OK},
		{"POST", "/?b=1&a=2", "b=3&c=4", pairs("b", "1", "a", "2", "b", "3", "c", "4"), api.OK},
		{"POST", "/", "a=1", pairs("a", "1"), api.OK},
		{"POST", "/?a=1", "", pairs("a", "1"), api.OK},
		{"POST", "/?a=1", "?b=2", pairs("a", "1", "?b", "2"), api.OK},
		{"post", "/?a=1", "b=2", pairs("a", "1"), api.OK},
		{"", "", "b=2", nil, api.OK},
		{"GET", "/?a=%", "", nil, api.ErrPercent},
		{"POST", "/?a=%4", "b", nil, api.ErrPercent},
		{"POST", "/?a=1", "b=%4g", nil, api.ErrPercent},
		// A percent that the end of the query cuts is none.
		{"POST", "/?a=%4", "1", nil, api.ErrPercent},
	} {
		if l, e := Args(api.Request{Method: x.method, Target: x.target, Body: x.body}); !slices.Equal(l, x.want) || e != x.e {
			t.Errorf("%d: Args of %s %q, %q = %v, %v", i, x.method, x.target, x.body, l, e)
		}
	}
}

func TestHowManyArgsMayBe(t *testing.T) {
	for query := range api.MaxPairs + 2 {
		for body := range api.MaxPairs + 2 {
			r := api.Request{Method: "POST", Target: "/?" + strings.Repeat("a&", query), Body: strings.Repeat("&b", body)}
			want, e := append(slices.Repeat(pairs("a", ""), query), slices.Repeat(pairs("b", ""), body)...), api.OK
			if query+body > api.MaxPairs {
				want, e = nil, api.ErrFull
			}
			if l, ge := Args(r); !slices.Equal(l, want) || ge != e {
				t.Fatalf("%d and %d: %v, %v", query, body, l, ge)
			}
		}
	}
}

func TestTheFirstErrorOfArgs(t *testing.T) {
	some, full := strings.Repeat("a&", 20), strings.Repeat("a&", api.MaxPairs+1)
	for i, x := range []struct {
		query, body string
		e           api.Errno
	}{
		{full, "%", api.ErrFull},
		{"%", full, api.ErrPercent},
		{"a", full + "%", api.ErrFull},
		{"a", "%&" + full, api.ErrPercent},
		// What one of both tells comes ahead of how many both have.
		{some, some + "%", api.ErrPercent},
		{some + "%", some, api.ErrPercent},
		{some, some, api.ErrFull},
	} {
		if l, e := Args(api.Request{Method: "POST", Target: "/?" + x.query, Body: x.body}); len(l) != 0 || e != x.e {
			t.Errorf("%d: %v, %v, want %v", i, l, e, x.e)
		}
	}
}

func TestArgsAreForms(t *testing.T) {
	r := rand.New(rand.NewSource(8))
	const common = "??%%&&==++09afAF ~/\x00\xff"
	draw := func() string {
		b := make([]byte, r.Intn(10))
		for i := range b {
			b[i] = common[r.Intn(len(common))]
		}
		return string(b)
	}
	for range 20000 {
		target, body := draw(), draw()
		query := ""
		if i := strings.Index(target, "?"); i >= 0 {
			query = target[i+1:]
		}
		want, e := pct.Form(query)
		if l, ge := Args(api.Request{Method: "GET", Target: target, Body: body}); !slices.Equal(l, want) || ge != e {
			t.Fatalf("Args of %q = %v, %v", target, l, ge)
		}
		if e == api.OK {
			var more []api.Pair
			more, e = pct.Form(body)
			want = append(want, more...)
		}
		if e != api.OK {
			want = nil
		}
		if l, ge := Args(api.Request{Method: "POST", Target: target, Body: body}); !slices.Equal(l, want) || ge != e {
			t.Fatalf("Args of %q, %q = %v, %v", target, body, l, ge)
		}
	}
}

func TestAlikeOfEachTwoBytes(t *testing.T) {
	for n := range 1 << 16 {
		a, b := string([]byte{byte(n >> 8)}), string([]byte{byte(n)})
		want := a == b
		for i := range 26 {
			two := letters[i:i+1] + letters[i+26:i+27]
			want = want || strings.Contains(two, a) && strings.Contains(two, b)
		}
		if Alike(a, b) != want || Alike("x"+a+"Y", "X"+b+"y") != want {
			t.Fatalf("Alike(%q, %q) = %v", a, b, !want)
		}
	}
}

func TestAlike(t *testing.T) {
	for i, x := range []struct {
		a, b string
		want bool
	}{
		{"", "", true},
		{"", "a", false},
		{"a", "", false},
		{"a", "ab", false},
		{"ab", "b", false},
		{"Content-Length", "cONTENT-lENGTH", true},
		{"content-length", "content_length", false},
		// Of other alphabets no letter is one of these, or has a case.
		{"\u212a", "k", false},
		{"\u017f", "s", false},
		{"\u00c9", "\u00e9", false},
		{"\u00c9", "\u00c9", true},
	} {
		if Alike(x.a, x.b) != x.want || Alike(x.b, x.a) != x.want {
			t.Errorf("%d: Alike(%q, %q)", i, x.a, x.b)
		}
	}
}

// P3.4

func TestWrittenIsRead(t *testing.T) {
	n := 0
	for _, r := range drawnRequests(40000) {
		s, e := Write(r)
		if e != api.OK {
			continue
		}
		n++
		if got, e := Parse(s); !same(got, r) || e != api.OK {
			t.Fatalf("Parse(%q) = %+v, %v, want %+v", s, got, e, r)
		}
	}
	if n < 5000 {
		t.Error("too few:", n)
	}
}

func TestReadIsWritten(t *testing.T) {
	n := 0
	for _, s := range drawnBytes(40000) {
		r, e := Parse(s)
		if e != api.OK {
			continue
		}
		n++
		once, e := Write(r)
		if !Right(r) || e != api.OK {
			t.Fatalf("Write of %q: %v", s, e)
		}
		again, e := Parse(once)
		if !same(again, r) || e != api.OK {
			t.Fatalf("Parse(%q) = %+v, %v, want %+v", once, again, e, r)
		}
		if twice, e := Write(again); twice != once || e != api.OK {
			t.Fatalf("Write = %q, then %q, %v", once, twice, e)
		}
	}
	if n < 1000 {
		t.Error("too few:", n)
	}
}

// R1, R3, R5

func TestAnyBytesAreAnswered(t *testing.T) {
	r := rand.New(rand.NewSource(9))
	const common = "\r\n\r\n::  \t/aA1-"
	for range 20000 {
		b := make([]byte, r.Intn(24))
		for i := range b {
			b[i] = common[r.Intn(len(common))]
			if r.Intn(8) == 0 {
				b[i] = byte(r.Intn(256))
			}
		}
		some := string(b)
		for _, s := range []string{some, "GET " + some, "GET /" + some + " HTTP/1.1\r\n\r\n", get + some, get + "a:" + some + "\r\n\r\n", get + "content-length:" + some, get + "content-length:9\r\n\r\n" + some} {
			want, e := parseByForms(s)
			if got, ge := Parse(s); !same(got, want) || ge != e {
				t.Fatalf("Parse(%q) = %+v, %v, want %+v, %v", s, got, ge, want, e)
			}
		}
		Write(api.Request{Method: some, Target: some, Headers: pairs(some, some), Body: some})
	}
}

func TestLongOnesAreAnswered(t *testing.T) {
	long := strings.Repeat("a", 1<<20)
	many := slices.Repeat([]api.Pair{{Name: long, Value: long}}, 1<<20)
	for i, r := range []api.Request{
		{Method: long, Target: "/"},
		{Method: "GET", Target: "/" + long},
		{Method: "GET", Target: "/", Headers: many[:1]},
		{Method: "GET", Target: "/", Headers: many},
		{Method: "GET", Target: "/", Body: long},
	} {
		if s, e := Write(r); Right(r) || s != "" || e != api.ErrArg {
			t.Errorf("%d: %v", i, e)
		}
	}
	if r, e := Parse(strings.Repeat("\r\n", 1<<20)); !isNone(r) || e != api.ErrLong {
		t.Error(e)
	}
}

func TestWhatIsHandedInIsNotChanged(t *testing.T) {
	for _, r := range drawnRequests(2000) {
		kept := r
		kept.Headers = slices.Clone(r.Headers)
		Write(r)
		Right(r)
		Header(r, "A")
		Path(r)
		first, _ := Args(r)
		for i := range first {
			first[i] = api.Pair{}
		}
		Args(r)
		if !reflect.DeepEqual(r, kept) {
			t.Fatalf("%+v was changed to %+v", kept, r)
		}
	}
}

func TestAnswersAreOfTheirOwn(t *testing.T) {
	s := "POST /?a=1 HTTP/1.1\r\nb: 2\r\ncontent-length: 3\r\n\r\nc=3"
	r, _ := Parse(s)
	args, _ := Args(r)
	r.Headers[0], args[0], args[1] = api.Pair{}, api.Pair{}, api.Pair{}
	again, e := Parse(s)
	if e != api.OK || !slices.Equal(again.Headers, pairs("b", "2", "content-length", "3")) {
		t.Error(again, e)
	}
	if l, e := Args(again); e != api.OK || !slices.Equal(l, pairs("a", "1", "c", "3")) {
		t.Error(l, e)
	}
}
