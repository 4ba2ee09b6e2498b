// Package pct is layer 1: see shared/doc/01-pct.md.
package pct

import (
	"strings"

	"matricula/api"
)

// The first sixteen digits are the ones that are written; the small letters behind them are only read.
var digits = [22]byte{
	'0', '1', '2', '3', '4', '5', '6', '7', '8', '9',
	'A', 'B', 'C', 'D', 'E', 'F',
	'a', 'b', 'c', 'd', 'e', 'f',
}

// Plain tells whether a byte stands for itself wherever percents are written.
func Plain(c byte) bool {
	switch {
	case 'a' <= c && c <= 'z', 'A' <= c && c <= 'Z', '0' <= c && c <= '9':
		return true
	}
	return c == '-' || c == '.' || c == '_' || c == '~'
}

// Encode writes bytes with percents.
func Encode(s string) string {
	out := make([]byte, 0, len(s))
	for i := 0; i < len(s); i++ {
		out = appendEncoded(out, s[i])
	}
	return string(out)
}

// Decode reads bytes that are written with percents; if plus, a + is a space, as in forms.
func Decode(s string, plus bool) (string, api.Errno) {
	out := make([]byte, 0, len(s))
	for i := 0; i < len(s); i++ {
		switch {
		case s[i] == '%':
			c, ok := told(s[i+1:])
			if !ok {
				return "", api.ErrPercent
			}
			out = append(out, c)
			i += 2
		case plus && s[i] == '+':
			out = append(out, ' ')
		default:
			out = append(out, s[i])
		}
	}
	return string(out), api.OK
}

// Normal writes the percents of a text in the one way that Encode has for them, and leaves all else alone.
func Normal(s string) (string, api.Errno) {
	out := make([]byte, 0, len(s))
	for i := 0; i < len(s); i++ {
		if s[i] != '%' {
			out = append(out, s[i])
			continue
		}
		c, ok := told(s[i+1:])
		if !ok {
			return "", api.ErrPercent
		}
		out = appendEncoded(out, c)
		i += 2
	}
	return string(out), api.OK
}

// Write is pairs as a form.
func Write(l []api.Pair) string {
	var out strings.Builder
	for i, p := range l {
		if i > 0 {
			out.WriteByte('&')
		}
		out.WriteString(Encode(p.Name))
		out.WriteByte('=')
		out.WriteString(Encode(p.Value))
	}
	return out.String()
}

// Form is a form's pairs.
func Form(s string) ([]api.Pair, api.Errno) {
	var l []api.Pair
	e := api.OK
pieces:
	for rest, more := s, true; more; {
		var piece string
		piece, rest, more = strings.Cut(rest, "&")
		switch {
		case piece == "":
			continue pieces
		case len(l) == api.MaxPairs:
			// Ahead of reading it: of one piece, that it is too many counts more than how it is written.
			e = api.ErrFull
			break pieces
		}
		var p api.Pair
		p, e = pair(piece)
		if e != api.OK {
			break pieces
		}
		l = append(l, p)
	}
	if e != api.OK {
		return nil, e
	}
	return l, api.OK
}

// Get is the first value of a name, and how many values it has.
func Get(l []api.Pair, name string) (string, int) {
	value, n := "", 0
	for _, p := range l {
		if p.Name != name {
			continue
		}
		if n == 0 {
			value = p.Value
		}
		n++
	}
	return value, n
}

func pair(piece string) (api.Pair, api.Errno) {
	// Cut first, decode then: an = that a percent tells is part of a name or a value.
	name, value, _ := strings.Cut(piece, "=")
	name, e := Decode(name, true)
	if e != api.OK {
		return api.Pair{}, e
	}
	value, e = Decode(value, true)
	if e != api.OK {
		return api.Pair{}, e
	}
	return api.Pair{Name: name, Value: value}, api.OK
}

func appendEncoded(out []byte, c byte) []byte {
	if Plain(c) {
		return append(out, c)
	}
	return append(out, '%', digits[c>>4], digits[c&15])
}

// told is the byte that the two digits at the start of s tell.
func told(s string) (byte, bool) {
	if len(s) < 2 {
		return 0, false
	}
	high, ok := worth(s[0])
	if !ok {
		return 0, false
	}
	low, ok := worth(s[1])
	if !ok {
		return 0, false
	}
	return high<<4 | low, true
}

func worth(c byte) (byte, bool) {
	for i, d := range digits {
		if d != c {
			continue
		}
		if i > 15 {
			i -= 6
		}
		return byte(i), true
	}
	return 0, false
}
