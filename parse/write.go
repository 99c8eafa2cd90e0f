package parse

import (
	"slices"

	"parlance/api"
)

// How strongly an expression holds together: an operand that holds less than its place asks for needs brackets.
const (
	holdsExpr = iota
	holdsComparison
	holdsSum
	holdsProduct
	holdsApplication
	holdsAtom
)

// holds: how strongly a node does.
func holds(n api.Node) int {
	switch n.Kind {
	case api.NFun, api.NLetIn, api.NIf, api.NMatch:
		return holdsExpr
	case api.NApply:
		return holdsApplication
	case api.NOp:
		switch n.Name {
		case "*":
			return holdsProduct
		case "+", "-":
			return holdsSum
		}
		return holdsComparison
	}
	return holdsAtom
}

// operand writes an expression where one must hold so strongly.
func (w *writer) operand(n api.Node, least int) {
	if holds(n) >= least {
		w.expr(n, false)
		return
	}
	w.put("(")
	w.expr(n, false)
	w.put(")")
}

// expr writes an expression; bar: a "|" of an outer match may follow, which an open match at the end would take.
func (w *writer) expr(n api.Node, bar bool) {
	switch n.Kind {
	case api.NFun:
		w.put("fun")
		body := w.params(n)
		w.put(" -> ")
		w.expr(body, bar)
	case api.NLetIn:
		w.binding(n)
		w.put(" in ")
		w.expr(w.part(n, 2), bar)
	case api.NIf:
		w.put("if ")
		w.expr(w.part(n, 0), false)
		w.put(" then ")
		w.expr(w.part(n, 1), false)
		w.put(" else ")
		w.expr(w.part(n, 2), bar)
	case api.NMatch:
		if bar {
			w.put("(")
			w.match(n)
			w.put(")")
		} else {
			w.match(n)
		}
	case api.NOp:
		w.operand(w.part(n, 0), max(holds(n), holdsSum))
		w.put(" ", n.Name, " ")
		w.operand(w.part(n, 1), holds(n)+1)
	case api.NApply:
		w.operand(w.part(n, 0), holdsApplication)
		w.put(" ")
		w.operand(w.part(n, 1), holdsAtom)
	default:
		w.atom(n)
	}
}

// match writes a match whose last arm ends it.
func (w *writer) match(n api.Node) {
	w.put("match ")
	w.expr(w.part(n, 0), false)
	w.put(" with ")
	last := len(n.Kids) - 1
	for i := 1; i <= last; i++ {
		if i > 1 {
			w.put(" | ")
		}
		w.arm(w.part(n, i), i < last)
	}
}

// arm writes an arm.
func (w *writer) arm(n api.Node, bar bool) {
	if n.Kind != api.NArm {
		return
	}
	w.pattern(w.part(n, 0), false)
	w.put(" -> ")
	w.expr(w.part(n, 1), bar)
}

// atom writes an expression that needs no brackets.
func (w *writer) atom(n api.Node) {
	switch n.Kind {
	case api.NVar, api.NCtor:
		w.put(n.Name)
	case api.NInt:
		w.put(number(n))
	case api.NBool:
		w.put(truth(n))
	case api.NUnit, api.NTuple:
		w.put("(")
		w.list(n.Kids, ", ", func(x api.Node) { w.expr(x, false) })
		w.put(")")
	}
}

// pattern writes a pattern; atom: one with a part needs brackets.
func (w *writer) pattern(n api.Node, atom bool) {
	switch n.Kind {
	case api.NBind:
		w.put(n.Name)
	case api.NAny:
		w.put("_")
	case api.NPInt:
		w.put(number(n))
	case api.NPBool:
		w.put(truth(n))
	case api.NPUnit, api.NPTuple:
		w.put("(")
		w.list(n.Kids, ", ", func(x api.Node) { w.pattern(x, false) })
		w.put(")")
	case api.NPCase:
		w.patternCase(n, atom && len(n.Kids) > 0)
	}
}

// patternCase writes a constructor's pattern.
func (w *writer) patternCase(n api.Node, brackets bool) {
	if brackets {
		w.put("(")
	}
	w.put(n.Name)
	if len(n.Kids) > 0 {
		w.put(" ")
		w.pattern(w.part(n, 0), true)
	}
	if brackets {
		w.put(")")
	}
}

// anyType writes a type.
func (w *writer) anyType(n api.Node) {
	switch n.Kind {
	case api.NArrow:
		w.typePart(w.part(n, 0), api.NArrow)
		w.put(" -> ")
		w.anyType(w.part(n, 1))
	case api.NPair:
		w.list(n.Kids, " * ", func(x api.Node) { w.typePart(x, api.NPair, api.NArrow) })
	case api.NTick:
		w.put("'", n.Name)
	case api.NName:
		w.named(n)
	}
}

// typePart writes a type that needs brackets, if it is of one of these kinds.
func (w *writer) typePart(n api.Node, kinds ...int) {
	if !slices.Contains(kinds, n.Kind) {
		w.anyType(n)
		return
	}
	w.put("(")
	w.anyType(n)
	w.put(")")
}

// named writes a name and its arguments.
func (w *writer) named(n api.Node) {
	switch len(n.Kids) {
	case 0:
	case 1:
		w.typePart(w.part(n, 0), api.NPair, api.NArrow)
		w.put(" ")
	default:
		w.put("(")
		w.list(n.Kids, ", ", w.anyType)
		w.put(") ")
	}
	w.put(n.Name)
}
