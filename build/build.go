// Package build makes values of JSON.
package build

import (
	"strconv"

	"parlance/api"
)

// Object is an object that grows.
type Object struct{ api.Value }

// New: an object without names.
func New() *Object { return &Object{api.Value{Kind: api.VObject}} }

// Put: a name more. The value is kept as it is.
func (b *Object) Put(name string, v api.Value) {
	b.Names = append(b.Names, name)
	b.Items = append(b.Items, v)
}

// Text: a string.
func Text(s string) api.Value { return api.Value{Kind: api.VString, Text: s} }

// Number: a whole number.
func Number(n int) api.Value { return api.Value{Kind: api.VNumber, Text: strconv.Itoa(n)} }

// Array: what each element of a list is made to.
func Array[T any](list []T, value func(T) api.Value) api.Value {
	v := api.Value{Kind: api.VArray}
	for _, x := range list {
		v.Items = append(v.Items, value(x))
	}
	return v
}

// Edit: an edit as an object.
func Edit(x api.Edit) api.Value {
	b := New()
	b.Put("line", Number(x.Line))
	b.Put("char", Number(x.Char))
	b.Put("endLine", Number(x.EndLine))
	b.Put("endChar", Number(x.EndChar))
	b.Put("text", Text(x.Text))
	return b.Value
}
