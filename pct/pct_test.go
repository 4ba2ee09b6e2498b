package pct

import (
	"encoding/hex"
	"fmt"
	"math/rand"
	"slices"
	"strings"
	"testing"

	"matricula/api"
)

const plainBytes = "abcdefghijklmnopqrstuvwxyzABCDEFGHIJKLMNOPQRSTUVWXYZ0123456789-._~"

func everyByte() string {
	b := make([]byte, 256)
	for i := range b {
		b[i] = byte(i)
	}
	return string(b)
}

// drawnTexts are texts that are thick with the bytes that have a meaning.
func drawnTexts(n int) []string {
	const common = "%%%%&&==++09afAFgG ~/\x00\xff"
	r := rand.New(rand.NewSource(1))
	l := make([]string, n)
	for i := range l {
		b := make([]byte, r.Intn(12))
		for j := range b {
			b[j] = common[r.Intn(len(common))]
			if r.Intn(8) == 0 {
				b[j] = byte(r.Intn(256))
			}
		}
		l[i] = string(b)
	}
	return l
}

func TestPlain(t *testing.T) {
	for c := range 256 {
		want := strings.IndexByte(plainBytes, byte(c)) >= 0
		if got := Plain(byte(c)); got != want {
			t.Errorf("Plain(%#x) = %v", c, got)
		}
	}
}

// P1.1

func TestEncodeEachByte(t *testing.T) {
	for c := range 256 {
		s := string([]byte{byte(c)})
		want := fmt.Sprintf("%%%02X", c)
		if strings.Contains(plainBytes, s) {
			want = s
		}
		if got := Encode(s); got != want {
			t.Errorf("Encode(%q) = %q, want %q", s, got, want)
		}
	}
}

func TestEncode(t *testing.T) {
	for s, want := range map[string]string{
		"":                   "",
		"a b/\xc3\xa9":       "a%20b%2F%C3%A9",
		"%41":                "%2541",
		"a+b":                "a%2Bb",
		"-._~":               "-._~",
		"\x00\x7f\x80\xff\n": "%00%7F%80%FF%0A",
	} {
		if got := Encode(s); got != want {
			t.Errorf("Encode(%q) = %q, want %q", s, got, want)
		}
	}
}

func TestDecode(t *testing.T) {
	for i, x := range []struct {
		s    string
		plus bool
		want string
		e    api.Errno
	}{
		{"", false, "", api.OK},
		{"", true, "", api.OK},
		{"a+b%41", true, "a bA", api.OK},
		{"a+b%41", false, "a+bA", api.OK},
		{"+%2B%2b+", true, " ++ ", api.OK},
		{"%2541", false, "%41", api.OK},
		{"%25%32%35", true, "%25", api.OK},
		{"%aF%Fa", false, "\xaf\xfa", api.OK},
		{"%00%ff", false, "\x00\xff", api.OK},
		{" /&=\xff\x00", true, " /&=\xff\x00", api.OK},
		{"%", false, "", api.ErrPercent},
		{"abc%", true, "", api.ErrPercent},
		{"abc%4", true, "", api.ErrPercent},
		{"%4", false, "", api.ErrPercent},
		{"%%41", false, "", api.ErrPercent},
		{"%4%41", false, "", api.ErrPercent},
		{"%+1", true, "", api.ErrPercent},
		{"%1+", true, "", api.ErrPercent},
		{"%41%", false, "", api.ErrPercent},
		{"%41%zz", false, "", api.ErrPercent},
		{"%-1", false, "", api.ErrPercent},
		{"%0x", false, "", api.ErrPercent},
	} {
		if got, e := Decode(x.s, x.plus); got != x.want || e != x.e {
			t.Errorf("%d: Decode(%q, %v) = %q, %v, want %q, %v", i, x.s, x.plus, got, e, x.want, x.e)
		}
	}
}

func TestDecodeAndNormalOfEveryTwoDigits(t *testing.T) {
	for n := range 1 << 16 {
		two := string([]byte{byte(n >> 8), byte(n)})
		s := "<%" + two + ">"
		b, err := hex.DecodeString(two)
		want, normal, e := "", "", api.ErrPercent
		if err == nil {
			want, normal, e = "<"+string(b)+">", "<"+Encode(string(b))+">", api.OK
		}
		if got, ge := Decode(s, true); got != want || ge != e {
			t.Fatalf("Decode(%q) = %q, %v, want %q, %v", s, got, ge, want, e)
		}
		if got, ge := Normal(s); got != normal || ge != e {
			t.Fatalf("Normal(%q) = %q, %v, want %q, %v", s, got, ge, normal, e)
		}
	}
}

// P1.2

func TestNormal(t *testing.T) {
	for i, x := range []struct {
		s, want string
		e       api.Errno
	}{
		{"", "", api.OK},
		{"%7e%2f", "~%2F", api.OK},
		{"%41%5a%61%7a%30%39%2d%2e%5f%7e", "AZaz09-._~", api.OK},
		{"a+b /&=?#\xff\x00", "a+b /&=?#\xff\x00", api.OK},
		{"%c3%A9", "%C3%A9", api.OK},
		{"%25%34%31", "%2541", api.OK},
		{"%2b+%20 ", "%2B+%20 ", api.OK},
		{"%", "", api.ErrPercent},
		{"a%4", "", api.ErrPercent},
		{"a%4g", "", api.ErrPercent},
		{"a%g4", "", api.ErrPercent},
		{"%%41", "", api.ErrPercent},
		{"%41%", "", api.ErrPercent},
	} {
		if got, e := Normal(x.s); got != x.want || e != x.e {
			t.Errorf("%d: Normal(%q) = %q, %v, want %q, %v", i, x.s, got, e, x.want, x.e)
		}
	}
}

// P1.3

func TestWrite(t *testing.T) {
	for i, x := range []struct {
		l    []api.Pair
		want string
	}{
		{nil, ""},
		{[]api.Pair{}, ""},
		{[]api.Pair{{}}, "="},
		{[]api.Pair{{}, {}}, "=&="},
		{[]api.Pair{{Name: "a"}}, "a="},
		{[]api.Pair{{Value: "a"}}, "=a"},
		{[]api.Pair{{Name: "a b", Value: "c+d"}, {Name: "&", Value: "="}, {Name: "a b", Value: "%"}}, "a%20b=c%2Bd&%26=%3D&a%20b=%25"},
	} {
		if got := Write(x.l); got != x.want {
			t.Errorf("%d: Write = %q, want %q", i, got, x.want)
		}
	}
}

func TestWriteKnowsNoMost(t *testing.T) {
	l := slices.Repeat([]api.Pair{{Name: "x", Value: "1"}}, api.MaxPairs+8)
	if want := strings.Repeat("&x=1", len(l))[1:]; Write(l) != want {
		t.Error(Write(l))
	}
}

func TestForm(t *testing.T) {
	for i, x := range []struct {
		s    string
		want []api.Pair
	}{
		{"", nil},
		{"&", nil},
		{"&&&", nil},
		{"x=1&&y", []api.Pair{{Name: "x", Value: "1"}, {Name: "y"}}},
		{"&x=1&", []api.Pair{{Name: "x", Value: "1"}}},
		{"=", []api.Pair{{}}},
		{"=&=", []api.Pair{{}, {}}},
		{"a=", []api.Pair{{Name: "a"}}},
		{"=a", []api.Pair{{Value: "a"}}},
		{"==", []api.Pair{{Value: "="}}},
		{"a=b=c", []api.Pair{{Name: "a", Value: "b=c"}}},
		{"a+b=c+d", []api.Pair{{Name: "a b", Value: "c d"}}},
		{"a%3Db=c%26d", []api.Pair{{Name: "a=b", Value: "c&d"}}},
		{"a%3Db", []api.Pair{{Name: "a=b"}}},
		{"%2B=%2b", []api.Pair{{Name: "+", Value: "+"}}},
		{"b=1&a=2&b=3", []api.Pair{{Name: "b", Value: "1"}, {Name: "a", Value: "2"}, {Name: "b", Value: "3"}}},
		{"a;b=1", []api.Pair{{Name: "a;b", Value: "1"}}},
		{"\x00=\xff", []api.Pair{{Name: "\x00", Value: "\xff"}}},
	} {
		if got, e := Form(x.s); !slices.Equal(got, x.want) || e != api.OK {
			t.Errorf("%d: Form(%q) = %v, %v", i, x.s, got, e)
		}
	}
}

func TestFormErrors(t *testing.T) {
	full := strings.Repeat("x=1&", api.MaxPairs)
	for i, x := range []struct {
		s string
		e api.Errno
	}{
		{"%", api.ErrPercent},
		{"a=%", api.ErrPercent},
		{"%=a", api.ErrPercent},
		{"a=1&b=%4&c=2", api.ErrPercent},
		// A percent that an & or an = cuts is none.
		{"a=%4&1", api.ErrPercent},
		{"%4=1", api.ErrPercent},
		{full + "y", api.ErrFull},
		{full + "=", api.ErrFull},
		{full + "%", api.ErrFull},
		{full + "&&&y=%", api.ErrFull},
		{full + "y&%", api.ErrFull},
		{"%&" + full + "y", api.ErrPercent},
		{strings.Repeat("x&", api.MaxPairs-1) + "%&y&z", api.ErrPercent},
	} {
		if got, e := Form(x.s); len(got) != 0 || e != x.e {
			t.Errorf("%d: Form(%q) = %v, %v, want %v", i, x.s, got, e, x.e)
		}
	}
}

func TestFormTakesAsManyAsMayBe(t *testing.T) {
	s := strings.Repeat("&&x=1", api.MaxPairs) + "&&&"
	if got, e := Form(s); len(got) != api.MaxPairs || e != api.OK {
		t.Error(len(got), e)
	}
}

// P1.4

func TestGet(t *testing.T) {
	l := []api.Pair{{Name: "a", Value: "1"}, {Name: "b"}, {Name: "a", Value: "2"}, {Value: "3"}, {Name: "b", Value: "4"}, {Name: "a"}}
	for i, x := range []struct {
		l           []api.Pair
		name, value string
		n           int
	}{
		{l, "a", "1", 3},
		{l, "b", "", 2},
		{l, "", "3", 1},
		{l, "A", "", 0},
		{l, "ab", "", 0},
		{nil, "a", "", 0},
		{nil, "", "", 0},
	} {
		if value, n := Get(x.l, x.name); value != x.value || n != x.n {
			t.Errorf("%d: Get(%q) = %q, %d, want %q, %d", i, x.name, value, n, x.value, x.n)
		}
	}
}

// P1.5

func TestEncodedIsDecoded(t *testing.T) {
	for _, s := range append(drawnTexts(2000), everyByte()) {
		enc := Encode(s)
		for _, plus := range []bool{false, true} {
			if got, e := Decode(enc, plus); got != s || e != api.OK {
				t.Fatalf("Decode(Encode(%q), %v) = %q, %v", s, plus, got, e)
			}
		}
		if strings.Trim(enc, plainBytes+"%") != "" {
			t.Fatalf("Encode(%q) = %q", s, enc)
		}
		if got, e := Normal(enc); got != enc || e != api.OK {
			t.Fatalf("Normal(%q) = %q, %v", enc, got, e)
		}
	}
}

func TestNormalTwiceIsNormalOnce(t *testing.T) {
	for _, s := range drawnTexts(20000) {
		told, de := Decode(s, false)
		once, e := Normal(s)
		if e != de {
			t.Fatalf("Normal(%q): %v, Decode: %v", s, e, de)
		}
		if e != api.OK {
			continue
		}
		if twice, e := Normal(once); twice != once || e != api.OK {
			t.Fatalf("Normal(%q) = %q, then %q, %v", s, once, twice, e)
		}
		if still, e := Decode(once, false); still != told || e != api.OK {
			t.Fatalf("Normal(%q) = %q tells %q, %v, want %q", s, once, still, e, told)
		}
	}
}

func TestWrittenIsRead(t *testing.T) {
	texts := append(drawnTexts(4000), everyByte(), "", "")
	for n := 0; n+2 <= len(texts); {
		var l []api.Pair
		for n+2 <= len(texts) && len(l) < api.MaxPairs {
			l = append(l, api.Pair{Name: texts[n], Value: texts[n+1]})
			n += 2
		}
		kept := slices.Clone(l)
		s := Write(l)
		if !slices.Equal(l, kept) {
			t.Fatal("Write changed its list")
		}
		if got, e := Form(s); !slices.Equal(got, l) || e != api.OK {
			t.Fatalf("Form(%q) = %v, %v", s, got, e)
		}
	}
}

// R1, R3

func TestErrorsTellNothingElse(t *testing.T) {
	for _, s := range drawnTexts(20000) {
		if got, e := Decode(s, true); e != api.OK && got != "" {
			t.Fatalf("Decode(%q) = %q, %v", s, got, e)
		}
		if got, e := Normal(s); e != api.OK && got != "" {
			t.Fatalf("Normal(%q) = %q, %v", s, got, e)
		}
		if got, e := Form(s); e != api.OK && len(got) != 0 {
			t.Fatalf("Form(%q) = %v, %v", s, got, e)
		}
	}
}
