package infer

import (
	"parlance/api"
	"parlance/data"
)

// rule: how a node of a kind is typed; its parts are typed already.
func (t *typer) rule(kind int) func(i int, n api.Node) int {
	switch kind {
	case api.NVar:
		return t.variable
	case api.NCtor:
		return t.constructor
	case api.NInt, api.NPInt, api.NBool, api.NPBool, api.NUnit, api.NPUnit:
		return t.constant
	case api.NTuple, api.NPTuple:
		return t.tuple
	case api.NApply:
		return t.application
	case api.NFun, api.NArm:
		return t.function
	case api.NIf:
		return t.choice
	case api.NMatch:
		return t.match
	case api.NOp:
		return t.operator
	case api.NPCase:
		return t.patternCase
	case api.NLetIn, api.NLet:
		return t.let
	}
	return t.fresh
}

// part: the type of a node's part.
func (t *typer) part(n api.Node, k int) int { return t.of[n.Kids[k]] }

// con: a type by its name.
func (t *typer) con(name string, args ...int) int {
	c, _ := t.Con(name, args...)
	return c
}

// arrow: a function's type.
func (t *typer) arrow(from, to int) int {
	a, _ := t.Arrow(from, to)
	return a
}

// instance: a type with variables of its own; those that vars knows are these.
func (t *typer) instance(x api.Type, vars map[int]int) int {
	if x.Kind == api.KVar {
		if _, known := vars[x.Num]; !known {
			vars[x.Num] = t.Var()
		}
		return vars[x.Num]
	}
	args := make([]int, 0, len(x.Args))
	for _, arg := range x.Args {
		args = append(args, t.instance(arg, vars))
	}
	switch x.Kind {
	case api.KPair:
		p, _ := t.Pair(args...)
		return p
	case api.KArrow:
		return t.arrow(args[0], args[1])
	}
	return t.con(x.Name, args...)
}

func (t *typer) fresh(int, api.Node) int { return t.Var() }

func (t *typer) variable(i int, n api.Node) int {
	b, bound := t.scopes.Find(i)
	switch {
	case !bound:
		return t.instance(t.names[t.last[n.Name]].Type, map[int]int{})
	case b.Let < 0:
		return t.of[b.Node]
	case t.Size(t.of[b.Node]) > api.MaxType:
		t.fail(api.FaultLarge, n)
		return 0
	}
	var keep []int
	for _, fixed := range t.scopes.Fixed(b.Let) {
		keep = append(keep, t.of[fixed])
	}
	c, _ := t.Copy(t.of[b.Node], keep...)
	return c
}

func (t *typer) constructor(_ int, n api.Node) int {
	c, _ := data.Lookup(t.env, n.Name)
	whole, _ := data.Whole(c)
	return t.instance(whole, map[int]int{})
}

func (t *typer) constant(_ int, n api.Node) int {
	switch n.Kind {
	case api.NInt, api.NPInt:
		return t.con("int")
	case api.NBool, api.NPBool:
		return t.con("bool")
	}
	return t.con("unit")
}

func (t *typer) tuple(_ int, n api.Node) int {
	parts := make([]int, 0, len(n.Kids))
	for k := range n.Kids {
		parts = append(parts, t.part(n, k))
	}
	p, _ := t.Pair(parts...)
	return p
}

func (t *typer) application(_ int, n api.Node) int {
	r := t.Var()
	t.alike(n, t.part(n, 0), t.arrow(t.part(n, 1), r))
	return r
}

func (t *typer) function(_ int, n api.Node) int {
	return t.arrow(t.part(n, 0), t.part(n, 1))
}

func (t *typer) choice(_ int, n api.Node) int {
	t.alike(n, t.part(n, 0), t.con("bool"))
	t.alike(n, t.part(n, 1), t.part(n, 2))
	return t.part(n, 1)
}

func (t *typer) match(_ int, n api.Node) int {
	r := t.Var()
	for k := 1; k < len(n.Kids); k++ {
		t.alike(n, t.part(n, k), t.arrow(t.part(n, 0), r))
	}
	return r
}

func (t *typer) operator(_ int, n api.Node) int {
	if n.Name == "=" {
		t.alike(n, t.part(n, 0), t.part(n, 1))
		return t.con("bool")
	}
	t.alike(n, t.part(n, 0), t.con("int"))
	t.alike(n, t.part(n, 1), t.con("int"))
	if n.Name == "<" {
		return t.con("bool")
	}
	return t.con("int")
}

func (t *typer) patternCase(_ int, n api.Node) int {
	c, _ := data.Lookup(t.env, n.Name)
	vars := map[int]int{}
	var args []int
	for k := range c.Params {
		vars[k] = t.Var()
		args = append(args, vars[k])
	}
	switch {
	case c.Has != (len(n.Kids) > 0):
		t.fail(api.FaultType, n)
	case c.Has:
		t.alike(n, t.part(n, 0), t.instance(c.Arg, vars))
	}
	return t.con(c.Of, args...)
}

// let: its expression was bound ahead of what follows.
func (t *typer) let(_ int, n api.Node) int {
	if n.Kind == api.NLet {
		return t.part(n, 0)
	}
	return t.part(n, 2)
}
