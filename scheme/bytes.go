package scheme

import "parlance/api"

// Encode: the bytes of exports.
func Encode(list []api.Export) ([]byte, api.Errno) {
	if !Right(list) {
		return nil, api.ErrScheme
	}
	b := []byte{byte(len(list) >> 8), byte(len(list))}
	for _, x := range list {
		b = writeType(writeName(b, x.Name), x.Type)
	}
	return b, api.OK
}

// Decode: the exports of bytes.
func Decode(b []byte) ([]api.Export, api.Errno) {
	r := &reader{rest: b}
	n := r.number(2)
	var list []api.Export
	for range n {
		if r.wrong || len(list) == most {
			return nil, api.ErrScheme
		}
		x := api.Export{Name: r.name()}
		r.parts = 0
		x.Type = r.typ()
		list = append(list, x)
	}
	if r.wrong || len(r.rest) > 0 || !Right(list) {
		return nil, api.ErrScheme
	}
	return list, api.OK
}

// writeName puts a name's bytes behind b.
func writeName(b []byte, name string) []byte {
	return append(append(b, byte(len(name))), name...)
}

// writeType puts a type's bytes behind b.
func writeType(b []byte, t api.Type) []byte {
	b = append(b, byte(t.Kind))
	switch t.Kind {
	case api.KVar:
		return append(b, byte(t.Num>>24), byte(t.Num>>16), byte(t.Num>>8), byte(t.Num))
	case api.KCon:
		b = writeName(b, t.Name)
	}
	b = append(b, byte(len(t.Args)))
	for _, x := range t.Args {
		b = writeType(b, x)
	}
	return b
}

// reader takes numbers, names and types off bytes; what it answers counts, if nothing is wrong at the end.
type reader struct {
	rest  []byte
	parts int // how many parts of the type at hand were begun
	wrong bool
}

// take takes so many bytes.
func (r *reader) take(n int) []byte {
	if n > len(r.rest) {
		r.wrong, r.rest = true, nil
		return make([]byte, n)
	}
	b := r.rest[:n]
	r.rest = r.rest[n:]
	return b
}

// number takes a number of so many bytes.
func (r *reader) number(size int) int {
	n := 0
	for _, c := range r.take(size) {
		n = n<<8 | int(c)
	}
	return n
}

// name takes a name.
func (r *reader) name() string { return string(r.take(r.number(1))) }

// typ takes a type.
func (r *reader) typ() api.Type {
	r.parts++
	if r.parts > api.MaxType {
		r.wrong = true
	}
	if r.wrong {
		return api.Type{}
	}
	t := api.Type{Kind: r.number(1)}
	switch t.Kind {
	case api.KVar:
		t.Num = r.number(4)
		return t
	case api.KCon:
		t.Name = r.name()
	}
	for range r.number(1) {
		t.Args = append(t.Args, r.typ())
	}
	return t
}
