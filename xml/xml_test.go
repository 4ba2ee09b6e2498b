package xml

import (
	"fmt"
	"math/rand"
	"reflect"
	"regexp"
	"slices"
	"strconv"
	"strings"
	"testing"

	"matricula/api"
)

func pick(r *rand.Rand, l []string) string { return l[r.Intn(len(l))] }

func pairs(texts ...string) []api.Pair {
	var l []api.Pair
	for i := 0; i < len(texts); i += 2 {
		l = append(l, api.Pair{Name: texts[i], Value: texts[i+1]})
	}
	return l
}

func leaf(name, text string) api.Node { return api.Node{Name: name, Text: text} }

func with(name string, kids ...api.Node) api.Node { return api.Node{Name: name, Kids: kids} }

func having(name string, attrs ...string) api.Node {
	return api.Node{Name: name, Attrs: pairs(attrs...)}
}

// chain has so many elements, each in the one before it.
func chain(deep int) api.Node {
	n := with("a")
	for range deep - 1 {
		n = with("a", n)
	}
	return n
}

// wide has so many elements, all but the first in it.
func wide(nodes int) api.Node { return with("a", slices.Repeat([]api.Node{with("b")}, nodes-1)...) }

// endless holds itself.
func endless() api.Node {
	kids := []api.Node{{Name: "a"}, {Name: "b"}}
	kids[0].Kids = kids
	return kids[0]
}

// bushy has few elements in memory, but more of them in one another than can be gone through.
func bushy() api.Node {
	n := with("a")
	for range 100 {
		n = with("a", n, n)
	}
	return n
}

// broad is not too deep, but has more kids of kids than can be gone through.
func broad() api.Node {
	n := with("a")
	for range 7 {
		n = with("a", slices.Repeat([]api.Node{n}, 1000)...)
	}
	return n
}

// tellAll is an element as text in which a nil list and an empty one are the same, and nothing else is.
func tellAll(n api.Node) string {
	s := fmt.Sprintf("(%q %q", n.Name, n.Text)
	for _, a := range n.Attrs {
		s += fmt.Sprintf(" %q=%q", a.Name, a.Value)
	}
	for _, k := range n.Kids {
		s += tellAll(k)
	}
	return s + ")"
}

const (
	name    = `[A-Za-z][-:_A-Za-z0-9]*`
	written = `(?:[^\x00-\x08\x0b-\x1f\x7f&<>"']|&(?:amp|lt|gt|quot|#39);)*`
)

var (
	nameForm      = regexp.MustCompile(`^` + name + `$`)
	shownForm     = regexp.MustCompile(`^[^\x00-\x08\x0b-\x1f\x7f]*$`)
	escapedForm   = regexp.MustCompile(`^(?:[^&<>"']|&(?:amp|lt|gt|quot|#39);)*$`)
	escapeForm    = regexp.MustCompile(`&(?:amp|lt|gt|quot|#39);`)
	attrForm      = regexp.MustCompile(` (` + name + `)="(` + written + `)"`)
	innermostForm = regexp.MustCompile(`<(` + name + `)((?: ` + name + `="` + written + `")*)>(?:(` + written + `)|((?:\x00[0-9]+\x00)*))</(` + name + `)>`)
	placeForm     = regexp.MustCompile(`\x00([0-9]+)\x00`)
)

func escapeByBytes(s string) string {
	var l []byte
	for i := range len(s) {
		switch c := s[i]; c {
		case '&':
			l = append(l, "&amp;"...)
		case '<':
			l = append(l, "&lt;"...)
		case '>':
			l = append(l, "&gt;"...)
		case '"':
			l = append(l, "&quot;"...)
		case '\'':
			l = append(l, "&#39;"...)
		default:
			l = append(l, c)
		}
	}
	return string(l)
}

func unescapeByForms(s string) (string, api.Errno) {
	if !escapedForm.MatchString(s) {
		return "", api.ErrByte
	}
	plain := map[string]string{"&amp;": "&", "&lt;": "<", "&gt;": ">", "&quot;": `"`, "&#39;": "'"}
	return escapeForm.ReplaceAllStringFunc(s, func(x string) string { return plain[x] }), api.OK
}

// size is how many elements there are, and how many lie in one another.
func size(n api.Node) (nodes, deep int) {
	for _, k := range n.Kids {
		kn, kd := size(k)
		nodes, deep = nodes+kn, max(deep, kd)
	}
	return nodes + 1, deep + 1
}

func rightByForms(n api.Node) bool {
	nodes, deep := size(n)
	return nodes <= 200 && deep <= 8 && rightBelow(n)
}

func rightBelow(n api.Node) bool {
	if !nameForm.MatchString(n.Name) || !shownForm.MatchString(n.Text) || n.Text != "" && len(n.Kids) > 0 {
		return false
	}
	for i, a := range n.Attrs {
		if !nameForm.MatchString(a.Name) || !shownForm.MatchString(a.Value) {
			return false
		}
		for _, b := range n.Attrs[:i] {
			if a.Name == b.Name {
				return false
			}
		}
	}
	for _, k := range n.Kids {
		if !rightBelow(k) {
			return false
		}
	}
	return true
}

// readByForms reads by regular expressions: of elements without others within, each is taken out, and a number in bytes that are not shown stands for it, until one is left.
func readByForms(s string) (api.Node, api.Errno) {
	var l []api.Node
	if strings.Contains(s, "\x00") {
		return api.Node{}, api.ErrByte
	}
	for {
		p := innermostForm.FindStringSubmatchIndex(s)
		if p == nil {
			break
		}
		part := func(i int) string {
			if p[2*i] < 0 {
				return ""
			}
			return s[p[2*i]:p[2*i+1]]
		}
		if part(1) != part(5) {
			return api.Node{}, api.ErrByte
		}
		n := api.Node{Name: part(1)}
		n.Text, _ = unescapeByForms(part(3))
		for _, a := range attrForm.FindAllStringSubmatch(part(2), -1) {
			v, _ := unescapeByForms(a[2])
			n.Attrs = append(n.Attrs, api.Pair{Name: a[1], Value: v})
		}
		for _, k := range placeForm.FindAllStringSubmatch(part(4), -1) {
			i, _ := strconv.Atoi(k[1])
			n.Kids = append(n.Kids, l[i])
		}
		s = s[:p[0]] + fmt.Sprintf("\x00%d\x00", len(l)) + s[p[1]:]
		l = append(l, n)
	}
	if len(l) == 0 || s != fmt.Sprintf("\x00%d\x00", len(l)-1) || !rightByForms(l[len(l)-1]) {
		return api.Node{}, api.ErrByte
	}
	return l[len(l)-1], api.OK
}

// checkRead holds Read of any text against what the regular expressions tell.
func checkRead(t *testing.T, s string) api.Errno {
	t.Helper()
	want, e := readByForms(s)
	if got, ge := Read(s); tellAll(got) != tellAll(want) || ge != e {
		t.Fatalf("Read(%.300q) = %.300v, %v, want %.300v, %v", s, got, ge, want, e)
	}
	return e
}

// checkRight holds Right against want, and Write, which must refuse what can't be.
func checkRight(t *testing.T, i int, n api.Node, want bool) {
	t.Helper()
	if got := Right(n); got != want {
		t.Errorf("%d: Right of %.200q is %v", i, n.Name, got)
	}
	s, e := Write(n)
	if want && (e != api.OK || s == "") || !want && (e != api.ErrArg || s != "") {
		t.Errorf("%d: Write of %.200q = %.200q, %v", i, n.Name, s, e)
	}
}

func drawnText(r *rand.Rand, pieces []string, most int) string {
	s := ""
	for range r.Intn(most) {
		s += pick(r, pieces)
	}
	return s
}

// drawnNode can be, or nearly so, if odd is set.
func drawnNode(r *rand.Rand, deep int, odd bool) api.Node {
	names := []string{"a", "b", "cas:user", "A-1", "x_", "Z", "b:-_9", "", "1", "a b", "a>", "-", "\u00e9"}
	texts := []string{"", "x", "<", ">", "&", "\"", "'", "&lt;", "&amp;", "</a>", "<a>", " ", "\t", "\n", "\x80", "\xff", "\u20ac", "=\"", "\r", "\x00", "\x7f", "\x1f"}
	bad := 0
	if odd && r.Intn(8) == 0 {
		bad = 4
	}
	oneName := func() string { return pick(r, names[:7+bad]) }
	oneText := func() string { return drawnText(r, texts[:18+bad], 4) }
	n := api.Node{Name: oneName()}
	for range r.Intn(3) {
		a := oneName()
		taken := slices.ContainsFunc(n.Attrs, func(p api.Pair) bool { return p.Name == a })
		if !taken || odd && r.Intn(8) == 0 {
			n.Attrs = append(n.Attrs, api.Pair{Name: a, Value: oneText()})
		}
	}
	if r.Intn(3) == 0 || deep == 1 {
		n.Text = oneText()
	}
	if n.Text == "" || odd && r.Intn(8) == 0 {
		for range r.Intn(4) {
			if deep > 1 {
				n.Kids = append(n.Kids, drawnNode(r, deep-1, odd))
			}
		}
	}
	return n
}

// P6.1

func TestEscape(t *testing.T) {
	for i, x := range []struct{ plain, written string }{
		{"", ""},
		{"a", "a"},
		{"&", "&amp;"},
		{"<", "&lt;"},
		{">", "&gt;"},
		{`"`, "&quot;"},
		{"'", "&#39;"},
		{"<&", "&lt;&amp;"},
		{`&<>"'`, "&amp;&lt;&gt;&quot;&#39;"},
		{`'"><&`, "&#39;&quot;&gt;&lt;&amp;"},
		{"&&", "&amp;&amp;"},
		{"a'b'c", "a&#39;b&#39;c"},
		// What is escaped already is escaped once more.
		{"&lt;", "&amp;lt;"},
		{"&amp;", "&amp;amp;"},
		{"&amp;lt;", "&amp;amp;lt;"},
		{"&#39;", "&amp;#39;"},
		{"&quot;&gt;", "&amp;quot;&amp;gt;"},
		{"amp;lt;#39;", "amp;lt;#39;"},
		// Whatever else stands there stays, whether or not it is shown.
		{"\x00\r\n\t\x7f\x80\xff", "\x00\r\n\t\x7f\x80\xff"},
		{"\u00e9\u2019\ufffd\xe2\x80", "\u00e9\u2019\ufffd\xe2\x80"},
		{"\xc3&\xa9", "\xc3&amp;\xa9"},
	} {
		if got := Escape(x.plain); got != x.written {
			t.Errorf("%d: Escape(%q) = %q", i, x.plain, got)
		}
		if got, e := Unescape(x.written); got != x.plain || e != api.OK {
			t.Errorf("%d: Unescape(%q) = %q, %v", i, x.written, got, e)
		}
	}
}

func TestUnescapeRefuses(t *testing.T) {
	for i, s := range []string{
		"<", ">", `"`, "'", "a<", ">b", `a"b`, "it's", "&lt;<", "'&#39;",
		"&", "&&", "a&", "&a", "& ", "&;", "&amp", "&lt", "&gt", "&quot", "&#39", "&am;", "&am", "&amp ;", "& amp;", "&AMP;", "&Lt;", "&LT;", "&Quot;", "&apos;", "&#039;", "&#39 ;", "&#x27;", "&#38;", "&#3;", "&#399;", "&nbsp;", "&&amp;", "&amp;&", "&&lt;", "&amp&amp;", "&l&lt;t;", "&lt&gt;;", "&l\x00t;", "\u00e9&", "amp;&",
	} {
		if got, e := Unescape(s); got != "" || e != api.ErrByte {
			t.Errorf("%d: Unescape(%q) = %q, %v", i, s, got, e)
		}
	}
}

func TestEachByteEscaped(t *testing.T) {
	for n := range 256 {
		c := string([]byte{byte(n)})
		for _, s := range []string{c, "a" + c, c + "b", c + c, "&" + c, c + ";", c + "amp;"} {
			if got, want := Escape(s), escapeByBytes(s); got != want {
				t.Errorf("Escape(%q) = %q", s, got)
			}
		}
		for _, s := range []string{c, "a" + c + "b", "&amp;" + c, c + "&amp;", "&" + c, "&" + c + "amp;", c + "amp;", "&amp" + c, "&" + c + "t;", "&l" + c + ";", "&#3" + c + ";", "&#" + c + "9;"} {
			want, e := unescapeByForms(s)
			if got, ge := Unescape(s); got != want || ge != e {
				t.Errorf("Unescape(%q) = %q, %v", s, got, ge)
			}
		}
	}
}

func TestDrawnTextsEscaped(t *testing.T) {
	r := rand.New(rand.NewSource(1))
	pieces := []string{"&amp;", "&lt;", "&gt;", "&quot;", "&#39;", "amp;", "lt;", "#39;", "x", ";", "\xff", "\x00", "\u00e9", "&", "<", ">", "\"", "'", "&a", "&#"}
	count := map[api.Errno]int{}
	for range 50000 {
		s := drawnText(r, pieces[:len(pieces)-7*r.Intn(2)], 8)
		if got, want := Escape(s), escapeByBytes(s); got != want {
			t.Fatalf("Escape(%q) = %q", s, got)
		}
		if got, e := Unescape(Escape(s)); got != s || e != api.OK {
			t.Fatalf("Unescape(%q) = %q, %v", Escape(s), got, e)
		}
		want, e := unescapeByForms(s)
		if got, ge := Unescape(s); got != want || ge != e {
			t.Fatalf("Unescape(%q) = %q, %v, want %q, %v", s, got, ge, want, e)
		}
		count[e]++
	}
	if count[api.OK] < 10000 || count[api.ErrByte] < 10000 {
		t.Error(count)
	}
}

// P6.2

func TestRight(t *testing.T) {
	long := strings.Repeat("a", 1<<16)
	for i, x := range []struct {
		n    api.Node
		want bool
	}{
		{api.Node{}, false},
		{leaf("a", ""), true},
		{api.Node{Name: "a", Attrs: []api.Pair{}, Kids: []api.Node{}}, true},
		{leaf("", "x"), false},
		{leaf("cas:user", "u"), true},
		{leaf("a:-_9Z", ""), true},
		{leaf("a::", ""), true},
		{leaf("9", ""), false},
		{leaf(":a", ""), false},
		{leaf("-a", ""), false},
		{leaf("_a", ""), false},
		{leaf("a.b", ""), false},
		{leaf("a ", ""), false},
		{leaf(" a", ""), false},
		{leaf("a/", ""), false},
		{leaf("/a", ""), false},
		{leaf("a>", ""), false},
		{leaf("\u00e9", ""), false},
		{leaf("a\u00e9", ""), false},
		{leaf(long, long), true},
		// The text.
		{leaf("a", "<a>&'\""), true},
		{leaf("a", "\t\n ~\x80\xff"), true},
		{leaf("a", "\r"), false},
		{leaf("a", "x\x00"), false},
		{leaf("a", "\x7fx"), false},
		{leaf("a", long+"\x1f"), false},
		// The attributes.
		{having("a", "x", ""), true},
		{having("a", "a", "1", "b", "1"), true},
		{having("a", "x", "1", "X", "1"), true},
		{having("a", "x", "1", "xx", "1", "x:", "1"), true},
		{having("a", "x", "1", "x", "1"), false},
		{having("a", "x", "1", "x", "2"), false},
		{having("a", "x", "1", "y", "2", "x", "3"), false},
		{having("a", "y", "1", "z", "2", "x", "3", "w", "4", "z", "5"), false},
		{having("a", "", "1"), false},
		{having("a", "x", "1", "", "1"), false},
		{having("a", "1", "1"), false},
		{having("a", "x y", "1"), false},
		{having("a", "x", "\x0b"), false},
		{having("a", "x", "ok", "y", "\x7f"), false},
		{having("a", "x", "\"'<>&\n\t\xff"), true},
		{having("a", long, long), true},
		// Kids, and no text beside them.
		{with("a", leaf("b", "x")), true},
		{with("a", with("a", with("a"))), true},
		{api.Node{Name: "a", Text: "x", Kids: []api.Node{leaf("b", "")}}, false},
		{api.Node{Name: "a", Text: " ", Kids: []api.Node{leaf("b", "")}}, false},
		{api.Node{Name: "a", Text: "x", Kids: []api.Node{}}, true},
		{api.Node{Name: "a", Attrs: pairs("x", "1"), Kids: []api.Node{having("b", "x", "1")}}, true},
		{with("a", api.Node{}), false},
		{with("a", leaf("b", ""), leaf("", "")), false},
		{with("a", leaf("b", "\r"), leaf("c", "")), false},
		{with("a", with("b", with("c", leaf("d", "\x7f")))), false},
		{with("a", with("b", having("c", "x", "", "x", "")), leaf("d", "")), false},
		{with("a", api.Node{Name: "b", Text: "x", Kids: []api.Node{leaf("c", "")}}), false},
		// How many, and how deep.
		{chain(8), true},
		{chain(9), false},
		{with("a", leaf("b", ""), chain(7)), true},
		{with("a", leaf("b", ""), chain(8)), false},
		{with("a", chain(8), leaf("b", "")), false},
		{wide(200), true},
		{wide(201), false},
		{with("a", wide(199)), true},
		{with("a", wide(200)), false},
		{with("a", wide(100), wide(99)), true},
		{with("a", wide(100), wide(100)), false},
		{with("a", wide(198), with("b")), true},
		{with("a", wide(199), with("b")), false},
		{with("a", with("b"), wide(199)), false},
		{with("a", wide(300)), false},
		{with("a", wide(300), with("b")), false},
		{chain(1 << 16), false},
		{wide(1 << 16), false},
		{endless(), false},
		{bushy(), false},
		{broad(), false},
	} {
		checkRight(t, i, x.n, x.want)
	}
}

func TestManyAttributesCanBe(t *testing.T) {
	n := leaf("a", "")
	for i := range 1 << 12 {
		n.Attrs = append(n.Attrs, api.Pair{Name: fmt.Sprintf("x%d", i)})
	}
	checkRight(t, 0, n, true)
	n.Attrs = append(n.Attrs, api.Pair{Name: "x7"})
	checkRight(t, 1, n, false)
}

func TestEachByteOfAnElement(t *testing.T) {
	for b := range 256 {
		c := string([]byte{byte(b)})
		letter := b >= 'a' && b <= 'z' || b >= 'A' && b <= 'Z'
		inName := letter || b >= '0' && b <= '9' || b == ':' || b == '-' || b == '_'
		shown := b >= 32 && b != 127 || b == 9 || b == 10
		for i, x := range []struct {
			name string
			want bool
		}{{c, letter}, {c + "a", letter}, {"a" + c, inName}, {"a" + c + "b", inName}, {"a1" + c, inName}} {
			checkRight(t, 10*b+i, leaf(x.name, ""), x.want)
			checkRight(t, 10*b+i, having("a", x.name, ""), x.want)
			checkRight(t, 10*b+i, with("a", leaf(x.name, "")), x.want)
		}
		for i, s := range []string{c, c + "b", "a" + c, "a" + c + "b"} {
			checkRight(t, 10*b+i, leaf("a", s), shown)
			checkRight(t, 10*b+i, having("a", "x", s), shown)
		}
	}
}

func TestRightOfDrawnElements(t *testing.T) {
	r := rand.New(rand.NewSource(2))
	count := map[bool]int{}
	for i := range 20000 {
		n := drawnNode(r, 1+r.Intn(9), true)
		want := rightByForms(n)
		checkRight(t, i, n, want)
		count[want]++
	}
	if count[true] < 3000 || count[false] < 3000 {
		t.Error(count)
	}
}

func TestWriteAndRead(t *testing.T) {
	for i, x := range []struct {
		n    api.Node
		want string
	}{
		{api.Node{Name: "a", Attrs: pairs("x", "1"), Text: "<&"}, `<a x="1">&lt;&amp;</a>`},
		{leaf("a", ""), "<a></a>"},
		{leaf("a", " "), "<a> </a>"},
		{leaf("a", "a=\"b\" c='d'"), "<a>a=&quot;b&quot; c=&#39;d&#39;</a>"},
		{leaf("a", "</a>"), "<a>&lt;/a&gt;</a>"},
		{leaf("a", "/"), "<a>/</a>"},
		{leaf("a", "&lt;"), "<a>&amp;lt;</a>"},
		{leaf("a", "\n\t\xff\u00e9"), "<a>\n\t\xff\u00e9</a>"},
		{leaf("cas:A-1_", "x"), "<cas:A-1_>x</cas:A-1_>"},
		// Attributes are written in their order, with the one " alone.
		{having("a", "b", "", "a", "", "c", ""), `<a b="" a="" c=""></a>`},
		{having("a", "x", " "), `<a x=" "></a>`},
		{having("a", "x", ` y="2" `), `<a x=" y=&quot;2&quot; "></a>`},
		{having("a", "x", "='"), `<a x="=&#39;"></a>`},
		{having("a", "x", ">", "y", "/>"), `<a x="&gt;" y="/&gt;"></a>`},
		{having("a", "x", "\n", "y", "\t"), "<a x=\"\n\" y=\"\t\"></a>"},
		{having("xmlns:cas", "xmlns:cas", "http://x/?a=b&c"), `<xmlns:cas xmlns:cas="http://x/?a=b&amp;c"></xmlns:cas>`},
		// Kids stand one behind the other, with nothing between.
		{with("a", leaf("b", ""), leaf("b", "2"), leaf("c", "")), "<a><b></b><b>2</b><c></c></a>"},
		{with("a", with("a", with("a")), with("a")), "<a><a><a></a></a><a></a></a>"},
		{with("a", with("b", leaf("c", "x")), with("b", leaf("c", "y"), leaf("d", ""))), "<a><b><c>x</c></b><b><c>y</c><d></d></b></a>"},
		{api.Node{Name: "a", Attrs: pairs("x", "1"), Kids: []api.Node{having("b", "x", "2")}}, `<a x="1"><b x="2"></b></a>`},
		{chain(8), strings.Repeat("<a>", 8) + strings.Repeat("</a>", 8)},
		{wide(200), "<a>" + strings.Repeat("<b></b>", 199) + "</a>"},
	} {
		if s, e := Write(x.n); s != x.want || e != api.OK {
			t.Errorf("%d: Write = %.200q, %v", i, s, e)
		}
		if n, e := Read(x.want); tellAll(n) != tellAll(x.n) || e != api.OK {
			t.Errorf("%d: Read(%.200q) = %.200v, %v", i, x.want, n, e)
		}
	}
}

func TestReadRefuses(t *testing.T) {
	for i, s := range []string{
		"", " ", "x", "<", ">", "<>", "</>", "<></>", "</a>", "<a", "<a>", "<a/>", "<a />", "<a></a", "<a><", "<a></", "<a></>", "a></a>", "<a></a>x", "x<a></a>", " <a></a>", "<a></a> ", "\n<a></a>", "<a></a>\n", "<a></a><a></a>", "<a></a><", "<a></a></a>", "</a><a></a>", "<a>x", "<a></b>", "<a></A>", "<a><b></a></b>", "<a><b></a>", "<a><b></b>", "<a></b></a>", "<a><a></a>", "<ab></a>", "<a></ab>", "<a></a >", "<a></ a>", "< a></a>", "<a></a x=\"\">", "<<a></a>", "<a>></a>", "<a></<a>", "<a></a>>", "<?xml version=\"1.0\"?><a></a>", "<!-- x --><a></a>", "<a><!-- x --></a>", "<a><![CDATA[x]]></a>",
		// Names.
		"<1></1>", "<-a></-a>", "<:></:>", "<a.b></a.b>", "<a b></a b>", "<a\n></a>", "<a\t></a>", "<\u00e9></\u00e9>", "<//a></a>",
		// Attributes.
		"<a ></a>", "<a  x=\"\"></a>", "<a x=\"\" ></a>", "<a x=\"\"  y=\"\"></a>", "<a x=\"\"y=\"\"></a>", "<a x></a>", "<a x=></a>", "<a x=1></a>", "<a x='1'></a>", "<a x=\"1></a>", "<a x=\"1'></a>", "<a x=1\"></a>", "<a x =\"\"></a>", "<a x= \"\"></a>", "<a =\"\"></a>", "<a x=\"\"=\"\"></a>", "<a x=\"\"\"></a>", "<a\tx=\"\"></a>", "<a\nx=\"\"></a>", "<a x=\"\"\ty=\"\"></a>", "<a x=\"<\"></a>", "<a x=\">\"></a>", "<a x=\"'\"></a>", "<a x=\"&\"></a>", "<a x=\"&lt\"></a>", "<a x=\"\r\"></a>", "<a x=\"\x7f\"></a>", "<a x=\"\" x=\"\"></a>", "<a x=\"1\" y=\"\" x=\"2\"></a>", "<a 1=\"\"></a>", "<a x y=\"\"></a>", "<a\"></a>", "<a x=\"\"/></a>",
		// Texts.
		"<a>&</a>", "<a>&lt</a>", "<a>&LT;</a>", "<a>&apos;</a>", "<a>&#x27;</a>", "<a>></a>", "<a>\"</a>", "<a>'</a>", "<a>\r</a>", "<a>\x00</a>", "<a>\x7f</a>", "<a>x\x1f</a>", "<a>x<b></b></a>", "<a><b></b>x</a>", "<a> <b></b></a>", "<a>\n<b></b>\n</a>", "<a><b></b> <c></c></a>",
		// How deep, and how many.
		strings.Repeat("<a>", 9) + strings.Repeat("</a>", 9),
		"<a>" + strings.Repeat("<b></b>", 200) + "</a>",
		"<a>" + strings.Repeat("<b></b>", 400) + "</a>",
		"<a>" + strings.Repeat("<b></b>", 199) + "</a></a>",
		"<a>" + strings.Repeat("<b></b>", 199),
		strings.Repeat("<a>", 400), strings.Repeat("<a>", 401), strings.Repeat("<a></a>", 200),
	} {
		if n, e := Read(s); tellAll(n) != tellAll(api.Node{}) || e != api.ErrByte {
			t.Errorf("%d: Read(%.200q) = %.200v, %v", i, s, n, e)
		}
		if want, e := readByForms(s); e != api.ErrByte {
			t.Errorf("%d: %.200q is %.200v to the regular expressions", i, s, want)
		}
	}
}

func TestReadOfDrawnTexts(t *testing.T) {
	r := rand.New(rand.NewSource(3))
	marks := []string{"<a>", "</a>", "<b>", "</b>", "<a></a>", "<a x=\"1\">", "<a x=\"&lt; \" y=\"\">", "x", "&amp;", "<b>", "</b>", " ", "&", "<", ">", "\"", "/", "<a >", "<a/>", "\r", "<a x=\"\" x=\"\">"}
	count := map[api.Errno]int{}
	for range 200000 {
		s := drawnText(r, marks[:len(marks)-12*r.Intn(2)], 8)
		for _, s := range []string{s, "<a>" + s + "</a>"} {
			count[checkRead(t, s)]++
		}
	}
	if count[api.OK] < 3000 || count[api.ErrByte] < 3000 {
		t.Error(count)
	}
}

// Whatever is left out, doubled or changed in a text that reads is read otherwise, or not at all.
func TestReadOfChangedBytes(t *testing.T) {
	whole := "<a x=\"1\" cas:y=\"&#39; z\"><b>&lt; =</b><b><c></c></b></a>"
	if checkRead(t, whole) != api.OK {
		t.Fatal("refused")
	}
	for i := range len(whole) {
		checkRead(t, whole[:i])
		checkRead(t, whole[i:])
		checkRead(t, whole[:i]+whole[i+1:])
		checkRead(t, whole[:i]+whole[i:i+1]+whole[i:])
		for c := range 256 {
			checkRead(t, whole[:i]+string([]byte{byte(c)})+whole[i+1:])
			checkRead(t, whole[:i]+string([]byte{byte(c)})+whole[i:])
		}
		for j := range i {
			checkRead(t, whole[:j]+whole[i:])
			checkRead(t, whole[:i]+whole[j:])
		}
	}
}

// P6.3

func TestFind(t *testing.T) {
	n := with("r", leaf("u", "1"), leaf("u", "2"), with("p", leaf("x", "3"), with("u", leaf("y", "4"))), with("p", leaf("z", "5")), leaf("", "6"), leaf("a b", "7"), with("U", leaf("r", "8")))
	for i, x := range []struct {
		path []string
		want api.Node
		ok   bool
	}{
		{nil, n, true},
		{[]string{}, n, true},
		{[]string{"u"}, leaf("u", "1"), true},
		{[]string{"p"}, n.Kids[2], true},
		{[]string{"p", "x"}, leaf("x", "3"), true},
		{[]string{"p", "u"}, with("u", leaf("y", "4")), true},
		{[]string{"p", "u", "y"}, leaf("y", "4"), true},
		{[]string{"U", "r"}, leaf("r", "8"), true},
		// The first of a name is the one, whatever lies in the others.
		{[]string{"p", "z"}, api.Node{}, false},
		{[]string{"u", "y"}, api.Node{}, false},
		// Its own name is none of its kids', and a kid's kid is no kid.
		{[]string{"r"}, api.Node{}, false},
		{[]string{"r", "u"}, api.Node{}, false},
		{[]string{"x"}, api.Node{}, false},
		{[]string{"p", "u", "y", "y"}, api.Node{}, false},
		{[]string{"q", "u"}, api.Node{}, false},
		{[]string{"P"}, api.Node{}, false},
		// Of elements that can't be it tells as well.
		{[]string{""}, leaf("", "6"), true},
		{[]string{"a b"}, leaf("a b", "7"), true},
		{[]string{"p", ""}, api.Node{}, false},
		{slices.Repeat([]string{"p"}, 1<<16), api.Node{}, false},
	} {
		got, ok := Find(n, x.path...)
		if tellAll(got) != tellAll(x.want) || ok != x.ok {
			t.Errorf("%d: Find of %.100q = %.200v, %v", i, x.path, got, ok)
		}
	}
	if got, ok := Find(api.Node{}); tellAll(got) != tellAll(api.Node{}) || !ok {
		t.Error(got, ok)
	}
	if got, ok := Find(n, "u"); got.Text != "1" || !ok {
		t.Error(got, ok)
	}
	if got, ok := Find(n, "p", "u", "y"); got.Text != "4" || !ok {
		t.Error(got, ok)
	}
	if got, ok := Find(chain(1<<10), slices.Repeat([]string{"a"}, 1<<10-1)...); tellAll(got) != tellAll(with("a")) || !ok {
		t.Error(got, ok)
	}
	if got, ok := Find(endless(), "a", "a", "b"); got.Name != "b" || !ok {
		t.Error(ok)
	}
}

func TestFindOfDrawnElements(t *testing.T) {
	var find func(n api.Node, path []string) (api.Node, bool)
	find = func(n api.Node, path []string) (api.Node, bool) {
		if len(path) == 0 {
			return n, true
		}
		for _, k := range n.Kids {
			if k.Name == path[0] {
				return find(k, path[1:])
			}
		}
		return api.Node{}, false
	}
	r := rand.New(rand.NewSource(4))
	count := map[bool]int{}
	for range 20000 {
		n := drawnNode(r, 4, true)
		var path []string
		for range r.Intn(4) {
			path = append(path, pick(r, []string{"a", "b", "cas:user", "A-1", "x_", "Z", "b:-_9"}))
		}
		want, ok := find(n, path)
		if got, gok := Find(n, path...); tellAll(got) != tellAll(want) || gok != ok {
			t.Fatalf("Find of %v, %q = %v, %v, want %v, %v", n, path, got, gok, want, ok)
		}
		count[ok]++
	}
	if count[true] < 3000 || count[false] < 3000 {
		t.Error(count)
	}
}

func TestSame(t *testing.T) {
	l := []api.Node{
		{},
		leaf("a", ""), leaf("b", ""), leaf("A", ""), leaf("a ", ""), leaf("", "a"),
		leaf("a", "x"), leaf("a", "y"), leaf("a", "x "), leaf("a", "X"),
		having("a", "x", ""), having("a", "y", ""), having("a", "x", "1"), having("a", "x", "1", "x", "1"), having("a", "x", "1", "y", "2"), having("a", "y", "2", "x", "1"), having("a", "x", "2", "y", "1"), having("a", "", ""),
		with("a", leaf("b", "")), with("a", leaf("c", "")), with("a", leaf("b", "x")), with("a", leaf("b", ""), leaf("b", "")), with("a", leaf("b", ""), leaf("c", "")), with("a", leaf("c", ""), leaf("b", "")), with("a", with("b", leaf("c", ""))), with("a", with("b", leaf("d", ""))), with("a", having("b", "x", "")), with("a", having("b", "y", "")), with("a", api.Node{}),
		{Name: "a", Text: "x", Kids: []api.Node{leaf("b", "")}},
		{Name: "a", Attrs: pairs("x", "1"), Text: "\x00"},
		chain(7), chain(8), wide(199), wide(200),
		with("a", leaf("b", ""), chain(7)), with("a", chain(7), leaf("b", "")),
	}
	copies := append([]api.Node{}, l...)
	for i := range copies {
		copies[i] = copyOf(copies[i])
	}
	for i, a := range l {
		for j, b := range copies {
			if got := Same(a, b); got != (i == j) {
				t.Errorf("Same(%.100v, %.100v) = %v", a, b, got)
			}
		}
	}
	// A nil list is an empty one.
	full := api.Node{Name: "a", Attrs: []api.Pair{}, Kids: []api.Node{{Name: "b", Attrs: []api.Pair{}, Kids: []api.Node{}}}}
	if !Same(full, with("a", leaf("b", ""))) || !Same(with("a", leaf("b", "")), full) {
		t.Error("nil and empty differ")
	}
}

func copyOf(n api.Node) api.Node {
	c := api.Node{Name: n.Name, Attrs: slices.Clone(n.Attrs), Text: n.Text}
	for _, k := range n.Kids {
		c.Kids = append(c.Kids, copyOf(k))
	}
	return c
}

func TestSameOfDrawnElements(t *testing.T) {
	r := rand.New(rand.NewSource(5))
	count := map[bool]int{}
	last := api.Node{}
	for i := range 30000 {
		n := drawnNode(r, 1+r.Intn(3), true)
		if i%3 == 0 {
			n = copyOf(last)
		}
		want := tellAll(n) == tellAll(last)
		if Same(n, last) != want || Same(last, n) != want || !Same(n, n) {
			t.Fatalf("Same(%v, %v) = %v", n, last, Same(n, last))
		}
		count[want]++
		last = n
	}
	if count[true] < 3000 || count[false] < 3000 {
		t.Error(count)
	}
}

// Nothing is promised of what Same tells of elements that are too great, but that it ends.
func TestSameEnds(t *testing.T) {
	for _, n := range []api.Node{chain(9), wide(201), chain(1 << 16), wide(1 << 16), endless(), bushy(), broad()} {
		Same(n, n)
		Same(n, leaf("a", ""))
		Same(leaf("a", ""), n)
		Same(n, endless())
		Same(chain(8), n)
	}
}

// P6.4

func TestWhatIsWrittenReadsAsItWas(t *testing.T) {
	r := rand.New(rand.NewSource(6))
	texts := map[string]api.Node{}
	for range 30000 {
		n := drawnNode(r, 1+r.Intn(5), false)
		s, e := Write(n)
		if e != api.OK {
			continue
		}
		got, e := Read(s)
		if tellAll(got) != tellAll(n) || !Same(got, n) || e != api.OK {
			t.Fatalf("Read(%.300q) = %.300v, %v, want %.300v", s, got, e, n)
		}
		if other, ok := texts[s]; ok && tellAll(other) != tellAll(n) {
			t.Fatalf("%.300v and %.300v are both written %.300q", n, other, s)
		}
		texts[s] = n
	}
	if len(texts) < 10000 {
		t.Error("too few:", len(texts))
	}
}

func TestATextComesBack(t *testing.T) {
	r := rand.New(rand.NewSource(7))
	for i := range 20000 {
		l := make([]byte, r.Intn(12))
		for i := range l {
			l[i] = byte(r.Intn(256))
			if l[i] < 32 || l[i] == 127 {
				l[i] = "\t\n<>&\"'"[r.Intn(7)]
			}
		}
		text := string(l)
		n := with("a", api.Node{Name: "b", Attrs: pairs("x", text, "y", text), Text: text}, leaf("c", text))
		s, e := Write(n)
		if e != api.OK {
			t.Fatal(i, e)
		}
		got, e := Read(s)
		k, ok := Find(got, "c")
		if e != api.OK || !ok || k.Text != text || tellAll(got) != tellAll(n) {
			t.Fatalf("%q came back as %v, %v", text, got, e)
		}
	}
}

// R1, R3, R5

func TestLongOnesAreAnswered(t *testing.T) {
	for i, s := range []string{
		strings.Repeat("<a>", 1<<18), strings.Repeat("</a>", 1<<18), strings.Repeat("<a>", 1<<16) + strings.Repeat("</a>", 1<<16), "<a>" + strings.Repeat("<b></b>", 1<<18) + "</a>", strings.Repeat("<", 1<<20), strings.Repeat(">", 1<<20), strings.Repeat("&", 1<<18), "<a " + strings.Repeat("x=\"\" ", 1<<16) + "></a>", "<a " + strings.Repeat("=\"", 1<<18), strings.Repeat("x", 1<<20), strings.Repeat(" ", 1<<20), "<a" + strings.Repeat(" ", 1<<20) + "></a>",
	} {
		if n, e := Read(s); e != api.ErrByte || tellAll(n) != tellAll(api.Node{}) {
			t.Error(i, e)
		}
	}
	text := strings.Repeat("&lt;<'\"", 1<<16)
	n := api.Node{Name: strings.Repeat("a", 1<<16), Attrs: pairs("x", text), Text: text}
	for i := range 1 << 12 {
		n.Attrs = append(n.Attrs, api.Pair{Name: fmt.Sprintf("y%d", i)})
	}
	s, e := Write(n)
	if got, re := Read(s); e != api.OK || re != api.OK || !Same(got, n) {
		t.Error(e, re)
	}
}

func TestAnyBytesAreAnswered(t *testing.T) {
	r := rand.New(rand.NewSource(8))
	for range 50000 {
		l := make([]byte, r.Intn(12))
		for i := range l {
			l[i] = "<>/ax =\"'&;\x00\xff\n\r"[r.Intn(15)]
		}
		s := string(l)
		for _, s := range []string{s, "<" + s, "<a" + s, "<a>" + s + "</a>", "<a " + s + "></a>", "<a x=\"" + s + "\"></a>", "<a" + s + ">x</a" + s + ">"} {
			checkRead(t, s)
		}
		for _, n := range []api.Node{leaf(s, ""), leaf("a", s), having("a", s, ""), having("a", "x", s), with("a", leaf("a", s), having("b", "x", "", s, ""))} {
			if Right(n) != rightByForms(n) {
				t.Fatalf("Right of %v is %v", n, Right(n))
			}
		}
	}
}

func TestWhatIsHandedInIsNotChanged(t *testing.T) {
	make := func() api.Node {
		return api.Node{Name: "a", Attrs: pairs("z", "<", "b", "1", "y", "2"), Kids: []api.Node{having("c", "q", "", "p", "&"), leaf("b", "<")}}
	}
	n, path := make(), []string{"c"}
	Right(n)
	if s, e := Write(n); s != `<a z="&lt;" b="1" y="2"><c q="" p="&amp;"></c><b>&lt;</b></a>` || e != api.OK {
		t.Error(s, e)
	}
	Find(n, path...)
	Same(n, n)
	if !reflect.DeepEqual(n, make()) || path[0] != "c" {
		t.Error(n, path)
	}
}

func TestAnswersAreMemoryOfTheirOwn(t *testing.T) {
	s := `<a x="1"><b y="2"></b><c></c></a>`
	first, _ := Read(s)
	second, _ := Read(s)
	clear(first.Attrs)
	clear(first.Kids[0].Attrs)
	clear(first.Kids)
	if again, e := Write(second); again != s || e != api.OK {
		t.Error(again, e)
	}
	// No list of one answer is laid into another's room.
	third, _ := Read("<a><b><c></c></b><b></b><b><d></d><e></e></b></a>")
	for i := range third.Kids {
		third.Kids[i].Kids = append(third.Kids[i].Kids, leaf("x", ""))
	}
	third.Kids = append(third.Kids, leaf("y", ""))
	if again, e := Write(third); again != "<a><b><c></c><x></x></b><b><x></x></b><b><d></d><e></e><x></x></b><y></y></a>" || e != api.OK {
		t.Error(again, e)
	}
}
