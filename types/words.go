package types

import (
	"slices"
	"strconv"

	"parlance/api"
	"parlance/lex"
)

// letters: how many variables have a text of one letter alone.
const letters = 26

// Show: a type's text.
func Show(t api.Type) (string, api.Errno) {
	if !Right(t) {
		return "", api.ErrType
	}
	return string(write(nil, t)), api.OK
}

// Read: the type of a text.
func Read(s string) (api.Type, api.Errno) {
	r := &reader{text: s, tokens: lex.Lex(s)}
	t := r.whole(0)
	if back, e := Show(t); r.wrong || e != api.OK || back != s {
		return api.Type{}, api.ErrType
	}
	return t, api.OK
}

// write puts a type's text behind b.
func write(b []byte, t api.Type) []byte {
	switch t.Kind {
	case api.KVar:
		b = append(b, '\'', 'a'+byte(t.Num%letters))
		if t.Num >= letters {
			b = strconv.AppendInt(b, int64(t.Num/letters), 10)
		}
		return b
	case api.KPair:
		return list(b, t.Args, " * ", api.KPair, api.KArrow)
	case api.KArrow:
		b = append(part(b, t.Args[0], api.KArrow), " -> "...)
		return write(b, t.Args[1])
	}
	switch len(t.Args) {
	case 0:
	case 1:
		b = append(part(b, t.Args[0], api.KPair, api.KArrow), ' ')
	default:
		b = append(list(append(b, '('), t.Args, ", "), ") "...)
	}
	return append(b, t.Name...)
}

// list writes types with a text between.
func list(b []byte, args []api.Type, between string, kinds ...int) []byte {
	for i, x := range args {
		if i > 0 {
			b = append(b, between...)
		}
		b = part(b, x, kinds...)
	}
	return b
}

// part writes a type that needs brackets, if it is of one of these kinds.
func part(b []byte, t api.Type, kinds ...int) []byte {
	if !slices.Contains(kinds, t.Kind) {
		return write(b, t)
	}
	return append(write(append(b, '('), t), ')')
}

// reader reads a type's tokens from the left; what it answers counts, if nothing is wrong at the end.
type reader struct {
	text   string
	tokens []api.Token
	at     int
	wrong  bool
}

// here: the next token; one of no kind at the end.
func (r *reader) here() api.Token {
	if r.at < len(r.tokens) {
		return r.tokens[r.at]
	}
	return api.Token{}
}

// take: is the next token this sign? Then it is passed over.
func (r *reader) take(sign string) bool {
	if !lex.Is(r.text, r.here(), sign) {
		return false
	}
	r.at++
	return true
}

// word takes a token that must be of this kind.
func (r *reader) word(kind int) string {
	t := r.here()
	if t.Kind != kind {
		r.wrong = true
		return ""
	}
	r.at++
	return lex.Word(r.text, t)
}

// whole reads a type; one that is deeper than a right one can be is wrong.
func (r *reader) whole(depth int) api.Type {
	if r.wrong = r.wrong || depth > api.MaxType; r.wrong {
		return api.Type{}
	}
	args := []api.Type{r.named(depth)}
	for r.take("*") {
		args = append(args, r.named(depth))
	}
	left := args[0]
	if len(args) > 1 {
		left = api.Type{Kind: api.KPair, Args: args}
	}
	if !r.take("->") {
		return left
	}
	return api.Type{Kind: api.KArrow, Args: []api.Type{left, r.whole(depth + 1)}}
}

// named reads a type and the names behind it.
func (r *reader) named(depth int) api.Type {
	var t api.Type
	switch {
	case r.here().Kind == api.TTick:
		t = r.variable()
	case r.here().Kind == api.TName:
		t = api.Type{Kind: api.KCon, Name: r.word(api.TName)}
	case r.take("("):
		t = r.bracket(depth)
	default:
		r.wrong = true
	}
	for r.here().Kind == api.TName {
		t = api.Type{Kind: api.KCon, Name: r.word(api.TName), Args: []api.Type{t}}
	}
	return t
}

// bracket reads what stands behind a "(": a type, or several and the name behind them.
func (r *reader) bracket(depth int) api.Type {
	args := []api.Type{r.whole(depth + 1)}
	for r.take(",") {
		args = append(args, r.whole(depth+1))
	}
	if !r.take(")") {
		r.wrong = true
	}
	if len(args) == 1 {
		return args[0]
	}
	return api.Type{Kind: api.KCon, Name: r.word(api.TName), Args: args}
}

// variable reads a variable.
func (r *reader) variable() api.Type {
	word := r.word(api.TTick)
	num := int(word[1] - 'a')
	if len(word) > 2 {
		n, err := strconv.Atoi(word[2:])
		if err != nil || n >= api.MaxInt {
			r.wrong = true
			return api.Type{}
		}
		num += n * letters
	}
	return api.Type{Kind: api.KVar, Num: num}
}
