package json

import (
	"strings"

	"parlance/api"
)

// Print: a value's bytes.
func Print(v api.Value) ([]byte, api.Errno) {
	if !Right(v) {
		return nil, api.ErrJSON
	}
	b := write(nil, v)
	if len(b) > api.MaxBody {
		return nil, api.ErrLarge
	}
	return b, api.OK
}

// write puts a value's bytes behind b.
func write(b []byte, v api.Value) []byte {
	switch v.Kind {
	case api.VNull:
		return append(b, "null"...)
	case api.VFalse:
		return append(b, "false"...)
	case api.VTrue:
		return append(b, "true"...)
	case api.VNumber:
		return append(b, v.Text...)
	case api.VString:
		return quote(b, v.Text)
	case api.VArray:
		b = append(b, '[')
		for i, x := range v.Items {
			b = write(comma(b, i), x)
		}
		return append(b, ']')
	}
	b = append(b, '{')
	for i, x := range v.Items {
		b = append(quote(comma(b, i), v.Names[i]), ':')
		b = write(b, x)
	}
	return append(b, '}')
}

// comma: a "," ahead of all elements but the first.
func comma(b []byte, element int) []byte {
	if element == 0 {
		return b
	}
	return append(b, ',')
}

// quote puts a string's bytes behind b.
func quote(b []byte, s string) []byte {
	const digits = "0123456789abcdef"
	b = append(b, '"')
	for i := range len(s) {
		c := s[i]
		short := strings.IndexByte("\"\\\b\f\n\r\t", c)
		switch {
		case short >= 0:
			b = append(b, '\\', `"\bfnrt`[short])
		case c < 32:
			b = append(b, '\\', 'u', '0', '0', digits[c>>4], digits[c&15])
		default:
			b = append(b, c)
		}
	}
	return append(b, '"')
}
