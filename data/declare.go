package data

import (
	"parlance/api"
	"parlance/copies"
	"parlance/parse"
)

// stop ends a declaration.
type stop struct{ fault api.Fault }

// declaration takes a type declaration in.
type declaration struct {
	nodes    []api.Node
	env      api.Env
	families map[string]int      // how many parameters each has
	cases    map[string]struct{} // which there are
	ticks    map[string]int      // the declared family's parameters, and their places
}

// Declare: an env with a type declaration more.
func Declare(e api.Env, nodes []api.Node) (out api.Env, fault api.Fault) {
	if !Right(e) {
		return api.Env{}, api.Fault{Code: api.FaultData}
	}
	if len(nodes) == 0 || nodes[len(nodes)-1].Kind != api.NType {
		return api.Env{}, api.Fault{Code: api.FaultSyntax}
	}
	if _, err := parse.Show(nodes); err != api.OK {
		return api.Env{}, api.Fault{Code: api.FaultSyntax}
	}
	defer func() {
		if x, ok := recover().(stop); ok {
			out, fault = api.Env{}, x.fault
		}
	}()
	d := begin(e, nodes)
	d.family(nodes[len(nodes)-1])
	return d.env, api.Fault{}
}

// begin: a declaration of which nothing is taken in yet.
func begin(e api.Env, nodes []api.Node) *declaration {
	families, cases := make(map[string]int, len(e.Families)+1), make(map[string]struct{}, len(e.Cases))
	d := &declaration{nodes: nodes, env: copies.Env(e), families: families, cases: cases, ticks: map[string]int{}}
	for _, f := range e.Families {
		d.families[f.Name] = f.Params
	}
	for _, c := range e.Cases {
		d.cases[c.Name] = struct{}{}
	}
	return d
}

// fail: a node is what is wrong.
func fail(code int, n api.Node) {
	panic(stop{api.Fault{Code: code, From: n.From, To: n.To}})
}

// family takes the whole in.
func (d *declaration) family(n api.Node) {
	if _, twice := d.families[n.Name]; twice {
		fail(api.FaultTwice, n)
	}
	if n.Num > mostParams {
		fail(api.FaultLarge, n)
	}
	d.families[n.Name] = n.Num
	d.env.Families = append(d.env.Families, api.Family{Name: n.Name, Params: n.Num})
	for i, kid := range n.Kids[:n.Num] {
		tick := d.nodes[kid]
		if _, twice := d.ticks[tick.Name]; twice {
			fail(api.FaultTwice, tick)
		}
		d.ticks[tick.Name] = i
	}
	from := n.Num
	for _, kid := range n.Kids[n.Num:] {
		d.oneCase(n, d.nodes[kid], d.nodes[from:kid])
		from = kid + 1
	}
}

// oneCase takes a case in; parts: the nodes of its type.
func (d *declaration) oneCase(of, n api.Node, parts []api.Node) {
	if _, twice := d.cases[n.Name]; twice {
		fail(api.FaultTwice, n)
	}
	d.cases[n.Name] = struct{}{}
	for _, part := range parts {
		d.check(part)
	}
	c := api.Case{Name: n.Name, Of: of.Name, Params: of.Num}
	if len(n.Kids) > 0 {
		c.Has, c.Arg = true, d.typ(n.Kids[0])
	}
	if _, ok := whole(c); !ok {
		fail(api.FaultLarge, n)
	}
	d.env.Cases = append(d.env.Cases, c)
}

// check: does a type's node say something that there is?
func (d *declaration) check(n api.Node) {
	switch n.Kind {
	case api.NTick:
		if _, known := d.ticks[n.Name]; !known {
			fail(api.FaultName, n)
		}
	case api.NName:
		if params, known := d.families[n.Name]; !known || params != len(n.Kids) {
			fail(api.FaultData, n)
		}
	}
}

// typ: the type of a type's node.
func (d *declaration) typ(i int) api.Type {
	n := d.nodes[i]
	var t api.Type
	switch n.Kind {
	case api.NTick:
		return api.Type{Kind: api.KVar, Num: d.ticks[n.Name]}
	case api.NName:
		t = api.Type{Kind: api.KCon, Name: n.Name}
	case api.NPair:
		t.Kind = api.KPair
	case api.NArrow:
		t.Kind = api.KArrow
	}
	for _, kid := range n.Kids {
		t.Args = append(t.Args, d.typ(kid))
	}
	return t
}
