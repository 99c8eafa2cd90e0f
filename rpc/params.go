package rpc

import (
	"parlance/api"
	"parlance/build"
	"parlance/copies"
	"parlance/json"
)

// fill takes a request's parameters out of an object; false, if one lacks or isn't as it must be.
func fill(q *api.Request, params api.Value) bool {
	ok := true
	need := func(name string, must func(api.Value) bool) {
		ok = ok && field(params, name, must)
	}
	switch q.Do {
	case api.DoOpen:
		need("uri", uri(&q.URI))
		need("version", whole(&q.Version))
		need("text", words(&q.Text))
	case api.DoChange:
		need("uri", uri(&q.URI))
		need("version", whole(&q.Version))
		need("edits", edits(&q.Edits))
	case api.DoRename:
		need("name", words(&q.Name))
		fallthrough
	case api.DoHover, api.DoComplete:
		need("line", whole(&q.Line))
		need("char", whole(&q.Char))
		fallthrough
	case api.DoClose, api.DoDiagnose, api.DoExports:
		need("uri", uri(&q.URI))
	case api.DoCancel:
		need("id", other(&q.Other))
	}
	return ok
}

// parameters: the object out of which fill takes them.
func parameters(q api.Request) api.Value {
	b := build.New()
	switch q.Do {
	case api.DoCancel:
		b.Put("id", copies.Value(q.Other))
		return b.Value
	case api.DoShutdown:
		return b.Value
	}
	b.Put("uri", build.Text(q.URI))
	switch q.Do {
	case api.DoOpen:
		b.Put("version", build.Number(q.Version))
		b.Put("text", build.Text(q.Text))
	case api.DoChange:
		b.Put("version", build.Number(q.Version))
		b.Put("edits", build.Array(q.Edits, build.Edit))
	case api.DoHover, api.DoComplete, api.DoRename:
		b.Put("line", build.Number(q.Line))
		b.Put("char", build.Number(q.Char))
	}
	if q.Do == api.DoRename {
		b.Put("name", build.Text(q.Name))
	}
	return b.Value
}

// field: is there such a name, and is what stands there as it must be?
func field(v api.Value, name string, must func(api.Value) bool) bool {
	x, there := json.Get(v, name)
	return there && must(x)
}

// words: it must be a string.
func words(to *string) func(api.Value) bool {
	return func(v api.Value) bool {
		*to = v.Text
		return v.Kind == api.VString
	}
}

// uri: it must be a document's name.
func uri(to *string) func(api.Value) bool {
	return func(v api.Value) bool {
		return words(to)(v) && len(v.Text) >= 1 && len(v.Text) <= api.MaxURI
	}
}

// whole: it must be a whole number below the limit.
func whole(to *int) func(api.Value) bool {
	return func(v api.Value) bool {
		n, ok := json.Int(v)
		*to = n
		return ok && n >= 0 && n < api.MaxInt
	}
}

// other: it must be an id.
func other(to *api.Value) func(api.Value) bool {
	return func(v api.Value) bool {
		*to = v
		return isID(v)
	}
}

// edits: it must be an array of edits.
func edits(to *[]api.Edit) func(api.Value) bool {
	return func(v api.Value) bool {
		for _, x := range v.Items {
			var e api.Edit
			ok := field(x, "line", whole(&e.Line)) && field(x, "char", whole(&e.Char)) &&
				field(x, "endLine", whole(&e.EndLine)) && field(x, "endChar", whole(&e.EndChar)) && field(x, "text", words(&e.Text))
			if !ok {
				return false
			}
			*to = append(*to, e)
		}
		return v.Kind == api.VArray
	}
}
