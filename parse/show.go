package parse

import (
	"iter"
	"slices"
	"strconv"

	"parlance/api"
)

// Show: a text of which these are the nodes.
func Show(nodes []api.Node) (string, api.Errno) {
	if len(nodes) == 0 || len(nodes) > api.MaxNodes || !inOrder(nodes) || slices.ContainsFunc(nodes, misshapen) {
		return "", api.ErrTree
	}
	w := &writer{nodes: nodes}
	w.declaration(nodes[len(nodes)-1])
	s := string(w.b)
	if back, fault := One(s); fault.Code != 0 || !slices.EqualFunc(back, nodes, alike) {
		return "", api.ErrTree
	}
	return s, api.OK
}

// alike: are two nodes the same, but for their bytes?
func alike(a, b api.Node) bool {
	return a.Kind == b.Kind && a.Num == b.Num && a.Name == b.Name && slices.Equal(a.Kids, b.Kids)
}

// inOrder: does each node stand in the list where it must, once?
func inOrder(nodes []api.Node) bool {
	n := 0
	for i := range below(nodes, len(nodes)-1) {
		if i != n {
			return false
		}
		n++
	}
	return n == len(nodes)
}

// below goes through the places of a node's parts, with their own parts, and its own place; -1 is a part that isn't ahead of its node.
func below(nodes []api.Node, root int) iter.Seq[int] {
	return func(yield func(int) bool) {
		var walk func(i int) bool
		walk = func(i int) bool {
			for _, kid := range nodes[i].Kids {
				if kid < 0 || kid >= i {
					return yield(-1) && false
				}
				if !walk(kid) {
					return false
				}
			}
			return yield(i)
		}
		walk(root)
	}
}

// misshapen: has it a number of parts that its kind can't have?
func misshapen(n api.Node) bool {
	least, most := 0, 0
	switch n.Kind {
	case api.NLet, api.NApply, api.NFun, api.NArm, api.NOp, api.NArrow:
		least, most = 2, 2
	case api.NLetIn, api.NIf:
		least, most = 3, 3
	case api.NCase, api.NPCase:
		most = 1
	case api.NType:
		least, most = 1, api.MaxNodes
	case api.NName:
		most = api.MaxNodes
	case api.NMatch, api.NTuple, api.NPTuple, api.NPair:
		least, most = 2, api.MaxNodes
	}
	return len(n.Kids) < least || len(n.Kids) > most
}

// writer writes nodes with as few brackets as can be: each makes what is in it one deeper.
type writer struct {
	nodes []api.Node
	b     []byte
}

// put writes words.
func (w *writer) put(words ...string) {
	for _, word := range words {
		w.b = append(w.b, word...)
	}
}

// part: a node's part.
func (w *writer) part(n api.Node, i int) api.Node { return w.nodes[n.Kids[i]] }

// list writes parts with a text between.
func (w *writer) list(kids []int, between string, write func(api.Node)) {
	for i, kid := range kids {
		if i > 0 {
			w.put(between)
		}
		write(w.nodes[kid])
	}
}

// declaration writes the whole.
func (w *writer) declaration(n api.Node) {
	if n.Kind == api.NLet {
		w.binding(n)
		return
	}
	ticks := 0
	for ticks < len(n.Kids) && w.part(n, ticks).Kind == api.NTick {
		ticks++
	}
	w.put("type ")
	for i := range ticks {
		w.anyType(w.part(n, i))
		w.put(" ")
	}
	w.put(n.Name, " = ")
	w.list(n.Kids[ticks:], " | ", func(c api.Node) {
		w.put(c.Name)
		if len(c.Kids) > 0 {
			w.put(" of ")
			w.anyType(w.part(c, 0))
		}
	})
}

// binding writes a let up to its expression's end; a row of functions stands ahead of the "=".
func (w *writer) binding(n api.Node) {
	w.put("let ")
	if n.Num != 0 {
		w.put("rec ")
	}
	w.put(w.part(n, 0).Name)
	body := w.params(w.part(n, 1))
	w.put(" = ")
	w.expr(body, false)
}

// params writes the binders of functions in one another, and answers what is in all of them.
func (w *writer) params(n api.Node) api.Node {
	for n.Kind == api.NFun {
		w.put(" ", w.part(n, 0).Name)
		n = w.part(n, 1)
	}
	return n
}

// number: a node's number in digits.
func number(n api.Node) string { return strconv.Itoa(n.Num) }

// truth: a node's number as a truth.
func truth(n api.Node) string {
	if n.Num == 0 {
		return "false"
	}
	return "true"
}
