package url

import (
	"fmt"
	"math/rand"
	"regexp"
	"slices"
	"strings"
	"testing"

	"matricula/api"
	"matricula/pct"
)

// The bytes that may stand in a path and in a query, written out; a query may have a ? too.
const standing = "!$%&'()*+,-./0123456789:;=@ABCDEFGHIJKLMNOPQRSTUVWXYZ[]_abcdefghijklmnopqrstuvwxyz~"

const hostBytes = "abcdefghijklmnopqrstuvwxyzABCDEFGHIJKLMNOPQRSTUVWXYZ0123456789-."

// drawnUrls are texts that are URLs, or nearly so.
func drawnUrls(n int) []string {
	parts := [][]string{
		{"http", "HTTP", "hTtPs", "https", "http", "https", "http", "https", "ftp", "http\u017f"},
		{"://", "://", "://", "://", "://", "://", "://", "://", ":/", ":///"},
		{"h", "A.b-9", "EXAMPLE.com", "h", "h", "h", "h", "", "a_b", "\u212a"},
		{"", "", "", "", ":80", ":443", ":8443", ":65535", ":65536", ":0", ":", ":8a"},
		{"", "/", "/", "?"},
	}
	tail := []string{"/", "/", "/", ".", "..", "/.", "/..", "a", "B", "%2e", "%2E", "%2f", "%41", "%c3%A9", "?", "&", "=", "+", "~", "%", "%4", "#", " ", "{"}
	r := rand.New(rand.NewSource(2))
	l := make([]string, n)
	for i := range l {
		for _, p := range parts {
			l[i] += p[r.Intn(len(p))]
		}
		many := len(tail)
		if r.Intn(2) == 0 {
			// Without the last five, so that longer ones are URLs too.
			many -= 5
		}
		for range r.Intn(9) {
			l[i] += tail[r.Intn(many)]
		}
	}
	return l
}

func drawnPaths(n int) []string {
	parts := []string{"/", "/", "/", "/", ".", ".", "..", "a", "...", "%2e", "?", "\xff"}
	r := rand.New(rand.NewSource(3))
	l := make([]string, n)
	for i := range l {
		if r.Intn(8) > 0 {
			l[i] = "/"
		}
		for range r.Intn(10) {
			l[i] += parts[r.Intn(len(parts))]
		}
	}
	return l
}

// dotsByLists tells Dots by the list of segments, as the document does.
func dotsByLists(path string) string {
	if path == "" || path[0] != '/' {
		return path
	}
	all := strings.Split(path[1:], "/")
	var kept []string
	for _, s := range all {
		if s == ".." && len(kept) > 0 {
			kept = kept[:len(kept)-1]
		}
		if s != "." && s != ".." {
			kept = append(kept, s)
		}
	}
	out := ""
	for _, s := range kept {
		out += "/" + s
	}
	if last := all[len(all)-1]; last == "." || last == ".." || len(kept) == 0 {
		out += "/"
	}
	return out
}

const (
	schemeForm = `^[hH][tT][tT][pP][sS]?://`
	hostForm   = schemeForm + `[-.0-9A-Za-z]{1,64}`
	portForm   = hostForm + `(:([1-9][0-9]{0,3}|[1-5][0-9]{4}|6[0-4][0-9]{3}|65[0-4][0-9]{2}|655[0-2][0-9]|6553[0-5]))?`
	pathForm   = portForm + `(/([-!$&'()*+,./0-9:;=@A-Z\[\]_a-z~]|%[0-9A-Fa-f]{2})*)?`
	queryForm  = pathForm + `(\?([-!$&'()*+,./0-9:;=?@A-Z\[\]_a-z~]|%[0-9A-Fa-f]{2})*)?`
)

// Each takes one part more than the one ahead of it; what it does not match tells that part's error.
var forms = []struct {
	form *regexp.Regexp
	e    api.Errno
}{
	{regexp.MustCompile(schemeForm), api.ErrScheme},
	{regexp.MustCompile(hostForm + `([/?#:]|$)`), api.ErrHost},
	{regexp.MustCompile(portForm + `([/?#]|$)`), api.ErrPort},
	{regexp.MustCompile(queryForm + `$`), api.ErrPath},
}

// errorByForms tells the error of a text that is not too long.
func errorByForms(s string) api.Errno {
	for _, f := range forms {
		if !f.form.MatchString(s) {
			return f.e
		}
	}
	return api.OK
}

// P2.1

func TestParse(t *testing.T) {
	for i, x := range []struct {
		s    string
		want api.Url
	}{
		{"https://A.b:8443/x?y=1", api.Url{Scheme: "https", Host: "a.b", Port: 8443, Path: "/x", Query: "y=1", Ask: true}},
		{"hTTp://h", api.Url{Scheme: "http", Host: "h", Path: "/"}},
		{"HTTPS://H", api.Url{Scheme: "https", Host: "h", Path: "/"}},
		{"http://-.-", api.Url{Scheme: "http", Host: "-.-", Path: "/"}},
		{"http://h:80", api.Url{Scheme: "http", Host: "h", Path: "/"}},
		{"https://h:443/", api.Url{Scheme: "https", Host: "h", Path: "/"}},
		{"http://h:443", api.Url{Scheme: "http", Host: "h", Port: 443, Path: "/"}},
		{"https://h:80", api.Url{Scheme: "https", Host: "h", Port: 80, Path: "/"}},
		{"http://h:1?", api.Url{Scheme: "http", Host: "h", Port: 1, Path: "/", Ask: true}},
		{"http://h:65535/", api.Url{Scheme: "http", Host: "h", Port: 65535, Path: "/"}},
		{"http://h?a?b", api.Url{Scheme: "http", Host: "h", Path: "/", Query: "a?b", Ask: true}},
		{"http://h/A%62%2f%2e%c3?%41%2F%3d&b+c", api.Url{Scheme: "http", Host: "h", Path: "/Ab%2F.%C3", Query: "A%2F%3D&b+c", Ask: true}},
		{"http://h/a/%2E%2e/.%2e/%2e/b", api.Url{Scheme: "http", Host: "h", Path: "/b"}},
		{"http://h/a%2f..", api.Url{Scheme: "http", Host: "h", Path: "/a%2F.."}},
		{"http://h/?/a/../b", api.Url{Scheme: "http", Host: "h", Path: "/", Query: "/a/../b", Ask: true}},
		{"http://h/x:y@z", api.Url{Scheme: "http", Host: "h", Path: "/x:y@z"}},
		{"http://h//", api.Url{Scheme: "http", Host: "h", Path: "//"}},
	} {
		if u, e := Parse(x.s); u != x.want || e != api.OK {
			t.Errorf("%d: Parse(%q) = %+v, %v, want %+v", i, x.s, u, e, x.want)
		}
	}
}

func TestParseErrors(t *testing.T) {
	h64 := strings.Repeat("h", 64)
	for i, x := range []struct {
		s string
		e api.Errno
	}{
		{"", api.ErrScheme},
		{"http", api.ErrScheme},
		{"http:", api.ErrScheme},
		{"http:/h", api.ErrScheme},
		{"http//h", api.ErrScheme},
		{"://h", api.ErrScheme},
		{"//h", api.ErrScheme},
		{"ftp://h/", api.ErrScheme},
		{"httpss://h", api.ErrScheme},
		{"htt://h", api.ErrScheme},
		{" http://h", api.ErrScheme},
		{"http ://h", api.ErrScheme},
		{"http\u017f://h", api.ErrScheme},
		{"http://", api.ErrHost},
		{"http:///", api.ErrHost},
		{"http://?", api.ErrHost},
		{"http://#", api.ErrHost},
		{"http://:80", api.ErrHost},
		{"http://a_b", api.ErrHost},
		{"http://a~b", api.ErrHost},
		{"http://u@h", api.ErrHost},
		{"http://%68", api.ErrHost},
		{"http://[1]", api.ErrHost},
		{"http://\u212a", api.ErrHost},
		{"http://h\\", api.ErrHost},
		{"http://" + h64 + "h", api.ErrHost},
		{"http://" + h64, api.OK},
		{"http://h:", api.ErrPort},
		{"http://h:/", api.ErrPort},
		{"http://h:?", api.ErrPort},
		{"http://h:#", api.ErrPort},
		{"http://h:0/", api.ErrPort},
		{"http://h:00", api.ErrPort},
		{"http://h:080", api.ErrPort},
		{"http://h:65536", api.ErrPort},
		{"http://h:99999", api.ErrPort},
		{"http://h:100000", api.ErrPort},
		{"http://h:18446744073709551617", api.ErrPort},
		{"http://h:8a", api.ErrPort},
		{"http://h:+8", api.ErrPort},
		{"http://h:-8", api.ErrPort},
		{"http://h: 8", api.ErrPort},
		{"http://h:8 ", api.ErrPort},
		{"http://h:1_0", api.ErrPort},
		{"http://h:80:80", api.ErrPort},
		{"http://h:\u0661", api.ErrPort},
		{"http://http://h", api.ErrPort},
		{"http://h#", api.ErrPath},
		{"http://h:80#", api.ErrPath},
		{"http://h/#", api.ErrPath},
		{"http://h/?#", api.ErrPath},
		{"http://h/ ", api.ErrPath},
		{"http://h/%", api.ErrPath},
		{"http://h/%4", api.ErrPath},
		{"http://h/%4g", api.ErrPath},
		{"http://h/%4?1", api.ErrPath},
		{"http://h?%", api.ErrPath},
		{"http://h/?%4", api.ErrPath},
		{"http://h/?%g4", api.ErrPath},
		// A segment that would be left out is looked at all the same.
		{"http://h/{/..", api.ErrPath},
		{"http://h/%/..", api.ErrPath},
	} {
		u, e := Parse(x.s)
		if e != x.e || e != api.OK && u != (api.Url{}) {
			t.Errorf("%d: Parse(%q) = %+v, %v, want %v", i, x.s, u, e, x.e)
		}
	}
}

func TestTheFirstErrorIsTold(t *testing.T) {
	long := strings.Repeat(" ", api.MaxText)
	for s, want := range map[string]api.Errno{
		"ftp://:0/ " + long: api.ErrLong,
		"ftp://:0/ ":        api.ErrScheme,
		"http://:0/ ":       api.ErrHost,
		"http://_:0/ ":      api.ErrHost,
		"http://h:0/ ":      api.ErrPort,
		"http://h:1/ ":      api.ErrPath,
	} {
		if _, e := Parse(s); e != want {
			t.Errorf("Parse(%q): %v, want %v", s, e, want)
		}
	}
}

func TestHowLongATextMayBe(t *testing.T) {
	s := "http://h/" + strings.Repeat("a", api.MaxText-len("http://h/"))
	if u, e := Parse(s); e != api.OK || String(u) != s {
		t.Error(e)
	}
	if u, e := Parse(s + "a"); e != api.ErrLong || u != (api.Url{}) {
		t.Error(u, e)
	}
	// Its length counts as it is handed in, not as it is written in one way.
	short := "http://h/" + strings.Repeat("%41", (api.MaxText-len("http://h/"))/3)
	if _, e := Parse(short + "%41%41"); e != api.ErrLong {
		t.Error(e)
	}
	grown := "http://h?" + strings.Repeat("a", api.MaxText-len("http://h?"))
	if got, e := Normal(grown); e != api.OK || len(got) != api.MaxText+1 {
		t.Error(len(got), e)
	}
}

func TestEachByteOfAHost(t *testing.T) {
	for c := range 256 {
		b := string([]byte{byte(c)})
		if strings.Contains("/?#:", b) {
			continue
		}
		want := api.ErrHost
		if strings.Contains(hostBytes, b) {
			want = api.OK
		}
		u, e := Parse("http://x" + b + "y")
		if e != want || e == api.OK && u.Host != "x"+strings.ToLower(b)+"y" {
			t.Errorf("%q: %+v, %v", b, u, e)
		}
	}
}

func TestEachByteOfAPathAndAQuery(t *testing.T) {
	for c := range 256 {
		b := string([]byte{byte(c)})
		want := api.ErrPath
		if strings.Contains(standing, b) {
			want = api.OK
		}
		text := "x" + b + "y"
		if b == "%" {
			text = "x%2Fy"
		}
		if u, e := Parse("http://h/" + text); b != "?" && (e != want || e == api.OK && u.Path != "/"+text) {
			t.Errorf("%q in a path: %+v, %v", b, u, e)
		}
		if b == "?" {
			want = api.OK
		}
		if u, e := Parse("http://h/?" + text); e != want || e == api.OK && u.Query != text {
			t.Errorf("%q in a query: %+v, %v", b, u, e)
		}
	}
}

func TestEachPercent(t *testing.T) {
	for c := range 256 {
		want := pct.Encode(string([]byte{byte(c)}))
		for _, form := range []string{"%%%02x", "%%%02X"} {
			p := fmt.Sprintf(form, c)
			u, e := Parse("http://h/x" + p + "?x" + p)
			if e != api.OK || u.Path != "/x"+want || u.Query != "x"+want {
				t.Errorf("%s: %+v, %v", p, u, e)
			}
		}
	}
}

func TestEachPort(t *testing.T) {
	for n := range 70000 {
		own := map[string]int{"http": 80, "https": 443}
		for scheme, mine := range own {
			want, e := n, api.OK
			switch {
			case n == 0 || n > 65535:
				want, e = 0, api.ErrPort
			case n == mine:
				want = 0
			}
			if u, ge := Parse(fmt.Sprintf("%s://h:%d", scheme, n)); u.Port != want || ge != e {
				t.Fatalf("%s, %d: %+v, %v", scheme, n, u, ge)
			}
		}
	}
}

func TestParseOfDrawnTexts(t *testing.T) {
	count := map[api.Errno]int{}
	for _, s := range drawnUrls(20000) {
		u, e := Parse(s)
		if want := errorByForms(s); e != want {
			t.Fatalf("Parse(%q): %v, want %v", s, e, want)
		}
		if e != api.OK && u != (api.Url{}) {
			t.Fatalf("Parse(%q) = %+v, %v", s, u, e)
		}
		if u.Ask != (e == api.OK && strings.Contains(s, "?")) {
			t.Fatalf("Parse(%q) = %+v", s, u)
		}
		count[e]++
	}
	for _, e := range []api.Errno{api.OK, api.ErrScheme, api.ErrHost, api.ErrPort, api.ErrPath} {
		if count[e] < 500 {
			t.Errorf("too few texts tell %v: %d", e, count[e])
		}
	}
}

// P2.2

func TestDots(t *testing.T) {
	for i, x := range []struct{ s, want string }{
		{"/", "/"},
		{"/.", "/"},
		{"/..", "/"},
		{"/./", "/"},
		{"/../", "/"},
		{"/../..", "/"},
		{"/a", "/a"},
		{"/a/", "/a/"},
		{"/a/.", "/a/"},
		{"/a/./", "/a/"},
		{"/a/..", "/"},
		{"/a/../", "/"},
		{"/a/b/..", "/a/"},
		{"/a/b/../../c", "/c"},
		{"/../a", "/a"},
		{"/a/../../b", "/b"},
		{"/...", "/..."},
		{"/..a/.b/a..", "/..a/.b/a.."},
		{"/a/b/../..", "/"},
		{"/a/./b/./c", "/a/b/c"},
		// An empty segment is one like others.
		{"//", "//"},
		{"//.", "//"},
		{"//..", "/"},
		{"//../", "/"},
		{"///..", "//"},
		{"/a//..", "/a/"},
		{"/a//../b", "/a/b"},
		{"//a/..", "//"},
		{"/a//b/.", "/a//b/"},
		// A percent is not looked at.
		{"/%2e%2e/a", "/%2e%2e/a"},
		{"/a/..?b", "/a/..?b"},
		{"/\xff/../\x00", "/\x00"},
		// What does not begin with / is left alone.
		{"", ""},
		{".", "."},
		{"..", ".."},
		{"./", "./"},
		{"a/..", "a/.."},
		{"../a/./b", "../a/./b"},
	} {
		if got := Dots(x.s); got != x.want {
			t.Errorf("%d: Dots(%q) = %q, want %q", i, x.s, got, x.want)
		}
	}
}

func TestDotsOfDrawnPaths(t *testing.T) {
	for _, s := range drawnPaths(50000) {
		got := Dots(s)
		if want := dotsByLists(s); got != want {
			t.Fatalf("Dots(%q) = %q, want %q", s, got, want)
		}
		if twice := Dots(got); twice != got {
			t.Fatalf("Dots(%q) = %q, then %q", s, got, twice)
		}
	}
}

func TestDotsOfALongPath(t *testing.T) {
	const n = 1 << 20
	for _, x := range []struct{ s, want string }{
		{strings.Repeat("/a", n) + strings.Repeat("/..", n), "/"},
		{strings.Repeat("/a/..", n) + "/b", "/b"},
		{"/a" + strings.Repeat("/.", n), "/a/"},
		{strings.Repeat("/", n), strings.Repeat("/", n)},
	} {
		if got := Dots(x.s); got != x.want {
			t.Errorf("Dots of %.8q: %d bytes", x.s, len(got))
		}
	}
}

// P2.3

func TestString(t *testing.T) {
	for i, x := range []struct {
		u            api.Url
		want, origin string
	}{
		{api.Url{}, "://", "://"},
		{api.Url{Scheme: "http", Host: "h", Path: "/"}, "http://h/", "http://h"},
		{api.Url{Scheme: "https", Host: "a.b", Port: 8443, Path: "/x", Query: "y=1", Ask: true}, "https://a.b:8443/x?y=1", "https://a.b:8443"},
		{api.Url{Scheme: "http", Host: "h", Path: "/", Ask: true}, "http://h/?", "http://h"},
		// What is handed in is told as it is, a URL that was read or not.
		{api.Url{Scheme: "http", Host: "h", Path: "/", Query: "a"}, "http://h/", "http://h"},
		{api.Url{Scheme: "http", Host: "h", Port: 80}, "http://h:80", "http://h:80"},
		{api.Url{Scheme: "X", Host: "Y", Port: -1, Path: "/../%", Query: "#", Ask: true}, "X://Y:-1/../%?#", "X://Y:-1"},
	} {
		if got := String(x.u); got != x.want {
			t.Errorf("%d: String = %q, want %q", i, got, x.want)
		}
		if got := Origin(x.u); got != x.origin {
			t.Errorf("%d: Origin = %q, want %q", i, got, x.origin)
		}
	}
}

func TestNormal(t *testing.T) {
	for i, x := range []struct {
		s, want string
		e       api.Errno
	}{
		{"HTTP://Example.com:80/a/./b/../%63?x=%2f", "http://example.com/a/c?x=%2F", api.OK},
		{"https://h:443", "https://h/", api.OK},
		{"http://h/a/..", "http://h/", api.OK},
		{"http://h?", "http://h/?", api.OK},
		{"http://h:8080?a", "http://h:8080/?a", api.OK},
		{"http://h/A?B", "http://h/A?B", api.OK},
		{strings.Repeat("a", api.MaxText+1), "", api.ErrLong},
		{"ftp://h/", "", api.ErrScheme},
		{"http:///", "", api.ErrHost},
		{"http://h:0/", "", api.ErrPort},
		{"http://h/#", "", api.ErrPath},
	} {
		if got, e := Normal(x.s); got != x.want || e != x.e {
			t.Errorf("%d: Normal(%q) = %q, %v, want %q, %v", i, x.s, got, e, x.want, x.e)
		}
	}
}

// P2.4

func TestAdd(t *testing.T) {
	for i, x := range []struct {
		u           api.Url
		name, value string
		want        string
	}{
		{api.Url{}, "a", "b", "a=b"},
		{api.Url{Ask: true}, "a", "b", "a=b"},
		{api.Url{Query: "y=1", Ask: true}, "ticket", "ST-1 &", "y=1&ticket=ST-1%20%26"},
		{api.Url{Query: "y=1"}, "a", "b", "y=1&a=b"},
		{api.Url{Query: "y&"}, "a", "b", "y&&a=b"},
		{api.Url{Query: "&"}, "a", "b", "&&a=b"},
		{api.Url{}, "", "", "="},
		{api.Url{Query: "%zz#"}, "+", "%", "%zz#&%2B=%25"},
	} {
		x.u.Scheme, x.u.Host, x.u.Port, x.u.Path = "http", "h", 7, "/p"
		want := x.u
		want.Query, want.Ask = x.want, true
		if got := Add(x.u, x.name, x.value); got != want {
			t.Errorf("%d: Add = %+v, want %+v", i, got, want)
		}
	}
}

func TestPairs(t *testing.T) {
	full := strings.Repeat("&x", api.MaxPairs)
	for i, x := range []struct {
		query string
		want  []api.Pair
		e     api.Errno
	}{
		{"", nil, api.OK},
		{"a=1&&b+c=%41&d", []api.Pair{{Name: "a", Value: "1"}, {Name: "b c", Value: "A"}, {Name: "d"}}, api.OK},
		{"a=?/", []api.Pair{{Name: "a", Value: "?/"}}, api.OK},
		{"a=%4", nil, api.ErrPercent},
		{full, slices.Repeat([]api.Pair{{Name: "x"}}, api.MaxPairs), api.OK},
		{full + "&y", nil, api.ErrFull},
	} {
		for _, ask := range []bool{false, true} {
			if got, e := Pairs(api.Url{Query: x.query, Ask: ask}); !slices.Equal(got, x.want) || e != x.e {
				t.Errorf("%d: Pairs of %q = %v, %v", i, x.query, got, e)
			}
		}
	}
}

// P2.5

func TestWhatIsNormalStaysSo(t *testing.T) {
	for _, s := range drawnUrls(20000) {
		u, e := Parse(s)
		if e != api.OK {
			continue
		}
		once, _ := Normal(s)
		if twice, e := Normal(once); twice != once || e != api.OK {
			t.Fatalf("Normal(%q) = %q, then %q, %v", s, once, twice, e)
		}
		if again, e := Parse(once); again != u || e != api.OK {
			t.Fatalf("Parse(%q) = %+v, then %+v, %v", s, u, again, e)
		}
		if !strings.HasPrefix(u.Path, "/") {
			t.Fatalf("Parse(%q) = %+v", s, u)
		}
		for _, segment := range strings.Split(u.Path, "/") {
			if segment == "." || segment == ".." {
				t.Fatalf("Parse(%q) = %+v", s, u)
			}
		}
		if rest, ok := strings.CutPrefix(once, Origin(u)); !ok || !strings.HasPrefix(rest, u.Path) {
			t.Fatalf("Origin of %q = %q", once, Origin(u))
		}
	}
}

func TestWhatWasAddedIsTheLastPair(t *testing.T) {
	texts := []string{"", "a", "ticket", "a b", "+", "&=", "%", "%41", "\x00\xff", "http://h/?a=b#c", "\u00e9"}
	r := rand.New(rand.NewSource(4))
	for _, s := range drawnUrls(5000) {
		u, e := Parse(s)
		if e != api.OK {
			continue
		}
		was, e := Pairs(u)
		if e != api.OK {
			t.Fatalf("Pairs of %q: %v", s, e)
		}
		p := api.Pair{Name: texts[r.Intn(len(texts))], Value: texts[r.Intn(len(texts))]}
		v := Add(u, p.Name, p.Value)
		if l, e := Pairs(v); e != api.OK || !slices.Equal(l, append(slices.Clone(was), p)) {
			t.Fatalf("Pairs of %+v = %v, %v", v, l, e)
		}
		if again, e := Parse(String(v)); again != v || e != api.OK {
			t.Fatalf("Parse(%q) = %+v, %v, want %+v", String(v), again, e, v)
		}
	}
}

// R1

func TestAnyBytesAreAnswered(t *testing.T) {
	r := rand.New(rand.NewSource(5))
	for range 20000 {
		b := make([]byte, r.Intn(24))
		for i := range b {
			b[i] = byte(r.Intn(256))
		}
		for _, s := range []string{string(b), "http://" + string(b), "http://h:" + string(b), "http://h/" + string(b), "http://h?" + string(b)} {
			if _, e := Parse(s); e != errorByForms(s) {
				t.Fatalf("Parse(%q): %v", s, e)
			}
			Dots(s)
		}
	}
}
