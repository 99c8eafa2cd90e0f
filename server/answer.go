package server

import (
	"parlance/api"
	"parlance/build"
	"parlance/module"
	"parlance/query"
	"parlance/text"
	"parlance/types"
	"parlance/utf"
)

// Answer: what a request about a document is answered.
func Answer(q api.Request, version int, s string) (api.Value, int) {
	if utf.Valid([]byte(s)) < len(s) {
		return api.Value{}, api.CodeParams
	}
	b := build.New()
	b.Put("version", build.Number(version))
	switch q.Do {
	case api.DoHover, api.DoComplete, api.DoRename:
		at, e := text.Offset(s, q.Line, q.Char)
		if e != api.OK || !placed(b, q, s, at) {
			return api.Value{}, api.CodeParams
		}
	case api.DoDiagnose:
		b.Put("faults", build.Array(module.Faults(s), func(f api.Fault) api.Value { return fault(s, f) }))
	default:
		return api.Value{}, api.CodeParams
	}
	return b.Value, 0
}

// placed puts what is answered about a place behind the version; false, if it can't be answered.
func placed(b *build.Object, q api.Request, s string, at int) bool {
	switch q.Do {
	case api.DoHover:
		hover(b, s, at)
	case api.DoComplete:
		b.Put("names", build.Array(query.Complete(s, at), build.Text))
	case api.DoRename:
		edits, e := query.Rename(s, at, q.Name)
		if e != api.OK {
			return false
		}
		b.Put("edits", build.Array(edits, build.Edit))
	}
	return true
}

// hover puts what a hover tells behind the version.
func hover(b *build.Object, s string, at int) {
	info, ok := query.Hover(s, at)
	if !ok {
		b.Put("type", api.Value{})
		return
	}
	b.Put("type", build.Text(info.Words))
	b.Put("from", place(s, info.From))
	b.Put("to", place(s, info.To))
}

// fault: a fault as an object.
func fault(s string, f api.Fault) api.Value {
	b := build.New()
	b.Put("from", place(s, f.From))
	b.Put("to", place(s, f.To))
	b.Put("message", build.Text(query.Words(f.Code)))
	return b.Value
}

// place: a byte's place as an object.
func place(s string, offset int) api.Value {
	line, char, _ := text.Place(s, offset)
	b := build.New()
	b.Put("line", build.Number(line))
	b.Put("char", build.Number(char))
	return b.Value
}

// exports: what the index knows of a document, as an object.
func exports(e api.Entry) api.Value {
	b := build.New()
	b.Put("version", build.Number(e.Version))
	b.Put("names", build.Array(e.Exports, func(x api.Export) api.Value {
		words, _ := types.Show(x.Type)
		n := build.New()
		n.Put("name", build.Text(x.Name))
		n.Put("type", build.Text(words))
		return n.Value
	}))
	return b.Value
}
