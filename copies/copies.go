// Package copies makes values again in memory of their own.
package copies

import (
	"slices"

	"parlance/api"
)

// each: a list of the copies of its elements.
func each[T any](list []T, again func(T) T) []T {
	if len(list) == 0 {
		return nil
	}
	out := make([]T, 0, len(list))
	for _, x := range list {
		out = append(out, again(x))
	}
	return out
}

// Value: a value of JSON.
func Value(v api.Value) api.Value {
	v.Names = slices.Clone(v.Names)
	v.Items = each(v.Items, Value)
	return v
}

// Nodes: a tree's nodes.
func Nodes(list []api.Node) []api.Node {
	return each(list, func(n api.Node) api.Node {
		n.Kids = slices.Clone(n.Kids)
		return n
	})
}

// Type: a type.
func Type(t api.Type) api.Type {
	t.Args = each(t.Args, Type)
	return t
}

// Exports: names with types.
func Exports(list []api.Export) []api.Export {
	return each(list, func(x api.Export) api.Export {
		x.Type = Type(x.Type)
		return x
	})
}

// Env: which types and constructors there are.
func Env(e api.Env) api.Env {
	return api.Env{Families: slices.Clone(e.Families), Cases: each(e.Cases, Case)}
}

// Case: a constructor.
func Case(c api.Case) api.Case {
	c.Arg = Type(c.Arg)
	return c
}

// Entry: what is known of a document.
func Entry(e api.Entry) api.Entry {
	e.Exports = Exports(e.Exports)
	return e
}
