package json

import (
	"strings"

	"parlance/api"
	"parlance/utf"
)

// fault ends the reading.
type fault struct{ errno api.Errno }

// reader reads a text from the left.
type reader struct {
	text string
	at   int
}

// Parse: the value of bytes.
func Parse(b []byte) (v api.Value, e api.Errno) {
	if len(b) > api.MaxBody {
		return api.Value{}, api.ErrLarge
	}
	if utf.Valid(b) != len(b) {
		return api.Value{}, api.ErrUtf
	}
	defer func() {
		if f, ok := recover().(fault); ok {
			v, e = api.Value{}, f.errno
		}
	}()
	r := &reader{text: string(b)}
	v = r.value(0)
	r.white()
	if r.at < len(r.text) {
		r.fail()
	}
	return v, api.OK
}

// fail: nothing right can stand here.
func (r *reader) fail() { panic(fault{api.ErrJSON}) }

// peek: the next byte; 0 at the end.
func (r *reader) peek() byte {
	if r.at < len(r.text) {
		return r.text[r.at]
	}
	return 0
}

// take: is this the next byte? Then it is passed over.
func (r *reader) take(c byte) bool {
	if r.peek() != c {
		return false
	}
	r.at++
	return true
}

// white passes white over.
func (r *reader) white() {
	for r.at < len(r.text) && strings.IndexByte(" \t\n\r", r.text[r.at]) >= 0 {
		r.at++
	}
}

// value reads a value at this depth.
func (r *reader) value(depth int) api.Value {
	r.white()
	switch c := r.peek(); {
	case c == '[' || c == '{':
		if depth >= api.MaxDeep {
			panic(fault{api.ErrDeep})
		}
		r.at++
		if c == '[' {
			return r.array(depth)
		}
		return r.object(depth)
	case c == '"':
		return api.Value{Kind: api.VString, Text: r.quoted()}
	case c == '-' || c >= '0' && c <= '9':
		return api.Value{Kind: api.VNumber, Text: r.number()}
	}
	return r.word()
}

// word reads one of the three words.
func (r *reader) word() api.Value {
	for kind, word := range [...]string{api.VNull: "null", api.VFalse: "false", api.VTrue: "true"} {
		if strings.HasPrefix(r.text[r.at:], word) {
			r.at += len(word)
			return api.Value{Kind: kind}
		}
	}
	r.fail()
	return api.Value{}
}

// number reads a number.
func (r *reader) number() string {
	n := numberLength(r.text[r.at:])
	if n == 0 {
		r.fail()
	}
	r.at += n
	return r.text[r.at-n : r.at]
}

// array reads an array behind its "[".
func (r *reader) array(depth int) api.Value {
	v := api.Value{Kind: api.VArray}
	r.elements(']', func() {
		v.Items = append(v.Items, r.value(depth+1))
	})
	return v
}

// object reads an object behind its "{".
func (r *reader) object(depth int) api.Value {
	v := api.Value{Kind: api.VObject}
	r.elements('}', func() {
		v.Names = append(v.Names, r.quoted())
		r.white()
		if !r.take(':') {
			r.fail()
		}
		v.Items = append(v.Items, r.value(depth+1))
	})
	return v
}

// elements reads elements with "," between, up to the byte that ends them.
func (r *reader) elements(end byte, element func()) {
	r.white()
	if r.take(end) {
		return
	}
reading:
	for {
		r.white()
		element()
		r.white()
		switch {
		case r.take(end):
			break reading
		case !r.take(','):
			r.fail()
		}
	}
}

// quoted reads a string.
func (r *reader) quoted() string {
	if !r.take('"') {
		r.fail()
	}
	var b []byte
	for {
		c := r.peek()
		switch {
		case c < 32:
			r.fail()
		case r.take('"'):
			return string(b)
		case r.take('\\'):
			b = append(b, r.escaped()...)
		default:
			b = append(b, c)
			r.at++
		}
	}
}

// escaped reads what stands behind a "\".
func (r *reader) escaped() string {
	c := r.peek()
	r.at++
	if i := strings.IndexByte(`"\/bfnrt`, c); i >= 0 {
		return "\"\\/\b\f\n\r\t"[i : i+1]
	}
	if c != 'u' {
		r.fail()
	}
	units := []int{r.unit()}
	if units[0] >= 0xd800 && units[0] < 0xdc00 && strings.HasPrefix(r.text[r.at:], `\u`) {
		r.at += 2
		units = append(units, r.unit())
	}
	runes, e := utf.Join(units...)
	if e != api.OK {
		r.fail()
	}
	s, _ := utf.Text(runes...)
	return s
}

// unit reads four hexadecimal digits.
func (r *reader) unit() int {
	n := 0
	for range 4 {
		c := r.peek()
		r.at++
		switch {
		case c >= '0' && c <= '9':
			n = n<<4 + int(c-'0')
		case c|32 >= 'a' && c|32 <= 'f':
			n = n<<4 + int(c|32-'a') + 10
		default:
			r.fail()
		}
	}
	return n
}
