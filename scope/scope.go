// Package scope tells which binders the names of a declaration mean. The nodes are those that parse.One answers for a "let".
package scope

import (
	"iter"

	"parlance/api"
)

// Bound is a binder in whose scope something stands: the NBind's place in the list; and the "let .. in" in whose last part that is, -1 for all other binders.
type Bound struct{ Node, Let int }

// link is a binder in a row, the innermost one first.
type link struct {
	bound Bound
	outer *link
}

// Table is which binders there are for each node.
type Table struct {
	nodes []api.Node
	rows  []*link
}

// Of: a declaration's table.
func Of(nodes []api.Node) *Table {
	t := &Table{nodes, make([]*link, len(nodes))}
	if len(nodes) > 0 {
		t.enter(len(nodes)-1, nil)
	}
	return t
}

// At goes through the binders in whose scope a node stands, the innermost one first.
func (t *Table) At(i int) iter.Seq[Bound] {
	return func(yield func(Bound) bool) {
		for x := t.rows[i]; x != nil; x = x.outer {
			if !yield(x.bound) {
				return
			}
		}
	}
}

// Find: the binder that a name's node means; false, if it has none.
func (t *Table) Find(i int) (Bound, bool) {
	for b := range t.At(i) {
		if t.nodes[b.Node].Name == t.nodes[i].Name {
			return b, true
		}
	}
	return Bound{}, false
}

// Fixed: the binders in whose scope a node stands, but for those of a "let .. in" around whose last part that is.
func (t *Table) Fixed(i int) []int {
	var list []int
	for b := range t.At(i) {
		if b.Let < 0 {
			list = append(list, b.Node)
		}
	}
	return list
}

// Pattern goes through a pattern's binders, in order.
func Pattern(nodes []api.Node, i int) iter.Seq[int] {
	return func(yield func(int) bool) { binders(nodes, i, yield) }
}

// Holds goes through the binders, and the nodes in which they hold.
func Holds(nodes []api.Node) iter.Seq2[int, int] {
	return func(yield func(int, int) bool) {
		for _, n := range nodes {
			for b, in := range held(nodes, n) {
				if !yield(b, in) {
					return
				}
			}
		}
	}
}

// held goes through the binders that a node has, and its parts in which they hold.
func held(nodes []api.Node, n api.Node) iter.Seq2[int, int] {
	return func(yield func(int, int) bool) {
		switch n.Kind {
		case api.NFun:
			yield(n.Kids[0], n.Kids[1])
		case api.NLet, api.NLetIn:
			for i, in := range n.Kids[1:] {
				if (i > 0 || n.Num == 1) && !yield(n.Kids[0], in) {
					return
				}
			}
		case api.NArm:
			for b := range Pattern(nodes, n.Kids[0]) {
				if !yield(b, n.Kids[1]) {
					return
				}
			}
		}
	}
}

// binders yields a pattern's binders, until one isn't wanted.
func binders(nodes []api.Node, i int, yield func(int) bool) bool {
	if nodes[i].Kind == api.NBind {
		return yield(i)
	}
	for _, kid := range nodes[i].Kids {
		if !binders(nodes, kid, yield) {
			return false
		}
	}
	return true
}

// enter lays the rows of a node and all within it.
func (t *Table) enter(i int, row *link) {
	t.rows[i] = row
	n := t.nodes[i]
	for k, kid := range n.Kids {
		inner := row
		for b, in := range held(t.nodes, n) {
			if in == kid {
				inner = &link{Bound{b, letOf(n, i, k)}, inner}
			}
		}
		t.enter(kid, inner)
	}
}

// letOf: the node, if it is a "let .. in" and this is its last part.
func letOf(n api.Node, i, part int) int {
	if n.Kind == api.NLetIn && part == 2 {
		return i
	}
	return -1
}
