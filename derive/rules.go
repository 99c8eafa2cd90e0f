package derive

import (
	"parlance/api"
	"parlance/data"
	"parlance/scheme"
	"parlance/types"
)

// part: the type of a node's part.
func (c *checker) part(n api.Node, k int) api.Type { return c.list[n.Kids[k]] }

// parts: the types of all of them.
func (c *checker) parts(n api.Node) []api.Type {
	out := make([]api.Type, 0, len(n.Kids))
	for k := range n.Kids {
		out = append(out, c.part(n, k))
	}
	return out
}

// arrow: a function's type.
func arrow(from, to api.Type) api.Type {
	return api.Type{Kind: api.KArrow, Args: []api.Type{from, to}}
}

// is: is it this type without arguments?
func is(t api.Type, name string) bool {
	return types.Same(t, api.Type{Kind: api.KCon, Name: name})
}

// holds: does what must hold of a node and its type?
func (c *checker) holds(i int, n api.Node) bool {
	t := c.list[i]
	switch n.Kind {
	case api.NVar:
		return c.variable(i, n)
	case api.NCtor:
		x, known := data.Lookup(c.env, n.Name)
		whole, ok := data.Whole(x)
		return known && ok && types.Instance(whole, t)
	case api.NInt, api.NPInt:
		return is(t, "int")
	case api.NBool, api.NPBool:
		return is(t, "bool")
	case api.NUnit, api.NPUnit:
		return is(t, "unit")
	case api.NTuple, api.NPTuple:
		return types.Same(t, api.Type{Kind: api.KPair, Args: c.parts(n)})
	case api.NApply:
		return types.Same(c.part(n, 0), arrow(c.part(n, 1), t))
	case api.NFun, api.NArm:
		return types.Same(t, arrow(c.part(n, 0), c.part(n, 1)))
	case api.NIf:
		return is(c.part(n, 0), "bool") && types.Same(c.part(n, 1), t) && types.Same(c.part(n, 2), t)
	case api.NMatch:
		return c.match(n, t)
	case api.NOp:
		return c.operator(n, t)
	case api.NPCase:
		return c.patternCase(n, t)
	case api.NLetIn, api.NLet:
		return c.let(n, t)
	}
	return true
}

// variable: is a name's type what its meaning allows?
func (c *checker) variable(i int, n api.Node) bool {
	t := c.list[i]
	b, bound := c.scopes.Find(i)
	switch {
	case !bound:
		x, known := scheme.Find(c.names, n.Name)
		return known && types.Instance(x, t)
	case b.Let < 0:
		return types.Same(t, c.list[b.Node])
	}
	return stands(c.list[b.Node], t, c.fixedAt(b.Let), map[int]api.Type{})
}

// match: is each arm a function from the first part to t?
func (c *checker) match(n api.Node, t api.Type) bool {
	arm := arrow(c.part(n, 0), t)
	for k := 1; k < len(n.Kids); k++ {
		if !types.Same(c.part(n, k), arm) {
			return false
		}
	}
	return true
}

// operator: do the operands and t agree with it?
func (c *checker) operator(n api.Node, t api.Type) bool {
	left, right := c.part(n, 0), c.part(n, 1)
	switch n.Name {
	case "=":
		return types.Same(left, right) && is(t, "bool")
	case "<":
		return is(left, "int") && is(right, "int") && is(t, "bool")
	}
	return is(left, "int") && is(right, "int") && is(t, "int")
}

// patternCase: is t the case's family, and the part's type its argument?
func (c *checker) patternCase(n api.Node, t api.Type) bool {
	x, known := data.Lookup(c.env, n.Name)
	if !known || x.Has != (len(n.Kids) > 0) || t.Kind != api.KCon || t.Name != x.Of || len(t.Args) != x.Params {
		return false
	}
	if !x.Has {
		return true
	}
	args := map[int]api.Type{}
	for k, arg := range t.Args {
		args[k] = arg
	}
	return stands(x.Arg, c.part(n, 0), nil, args)
}

// let: has the binder the expression's type, and the whole its own?
func (c *checker) let(n api.Node, t api.Type) bool {
	whole := c.part(n, 0)
	switch n.Kind {
	case api.NLetIn:
		whole = c.part(n, 2)
		fallthrough
	case api.NLet:
		return types.Same(c.part(n, 0), c.part(n, 1)) && types.Same(t, whole)
	}
	return false
}
