package query

import (
	"slices"

	"parlance/api"
	"parlance/lex"
	"parlance/module"
	"parlance/text"
	"parlance/types"
	"parlance/utf"
)

// Rename: edits that tell a name another one.
func Rename(s string, at int, name string) ([]api.Edit, api.Errno) {
	if utf.Valid([]byte(s)) < len(s) {
		return nil, api.ErrUtf
	}
	if lex.Kind(name) != api.TName {
		return nil, api.ErrName
	}
	uses := Resolve(s)
	i := slices.IndexFunc(uses, func(u api.Use) bool { return u.From <= at && at < u.To })
	switch {
	case i < 0:
		return nil, api.ErrPlace
	case uses[i].Binder < 0:
		return nil, api.ErrUnknown
	}
	edits := replacing(s, uses, uses[i].Binder, name)
	next, e := text.Apply(s, edits...)
	switch {
	case e != api.OK:
		return nil, e
	case !slices.Equal(rows(uses), rows(Resolve(next))), !slices.EqualFunc(module.Analyze(s), module.Analyze(next), agree):
		return nil, api.ErrClash
	}
	return edits, api.OK
}

// replacing: edits that put a name in the place of each use of a binder, the last one first.
func replacing(s string, uses []api.Use, binder int, name string) []api.Edit {
	var edits []api.Edit
	for _, u := range slices.Backward(uses) {
		if u.Binder != binder {
			continue
		}
		x := api.Edit{Text: name}
		x.Line, x.Char, _ = text.Place(s, u.From)
		x.EndLine, x.EndChar, _ = text.Place(s, u.To)
		edits = append(edits, x)
	}
	return edits
}

// rows: for each use, which of them in the row is its binder; -1: it has none.
func rows(uses []api.Use) []int {
	at := map[int]int{}
	for i, u := range uses {
		at[u.From] = i
	}
	var list []int
	for _, u := range uses {
		if u.Binder < 0 {
			list = append(list, -1)
		} else {
			list = append(list, at[u.Binder])
		}
	}
	return list
}

// agree: do two reports tell the same, but for names and bytes?
func agree(a, b api.Report) bool {
	return a.Typed == b.Typed && types.Same(a.Type, b.Type) && a.Fault.Code == b.Fault.Code
}
