package infer

import (
	"math/rand"
	"testing"

	"parlance/api"
	"parlance/parse"
	"parlance/types"
)

// The plain way: types as trees, variables as pointers, and a let that is made general where it stands.

type tree struct {
	name string
	args []*tree
	is   *tree // of a variable: what it became
}

func (x *tree) end() *tree {
	for x.name == "" && x.is != nil {
		x = x.is
	}
	return x
}

func (x *tree) has(v *tree) bool {
	x = x.end()
	if x == v {
		return true
	}
	for _, a := range x.args {
		if a.has(v) {
			return true
		}
	}
	return false
}

type wrong struct{}

func alike(a, b *tree) {
	a, b = a.end(), b.end()
	switch {
	case a == b:
	case a.name == "":
		if b.has(a) {
			panic(wrong{})
		}
		a.is = b
	case b.name == "":
		alike(b, a)
	case a.name != b.name || len(a.args) != len(b.args):
		panic(wrong{})
	default:
		for i := range a.args {
			alike(a.args[i], b.args[i])
		}
	}
}

type known struct {
	name  string
	t     *tree
	poly  bool
	outer *known
}

type plain struct {
	nodes []api.Node
	env   api.Env
	names []api.Export
}

func of(name string, args ...*tree) *tree { return &tree{name: name, args: args} }

func (p *plain) fresh(t api.Type, vars map[int]*tree) *tree {
	if t.Kind == api.KVar {
		if vars[t.Num] == nil {
			vars[t.Num] = &tree{}
		}
		return vars[t.Num]
	}
	name := map[int]string{api.KCon: t.Name, api.KPair: "*", api.KArrow: "->"}[t.Kind]
	x := of(name)
	for _, a := range t.Args {
		x.args = append(x.args, p.fresh(a, vars))
	}
	return x
}

func (k *known) again(x *tree, made map[*tree]*tree) *tree {
	x = x.end()
	if x.name == "" {
		for e := k; e != nil; e = e.outer {
			if !e.poly && e.t.has(x) {
				return x
			}
		}
		if made[x] == nil {
			made[x] = &tree{}
		}
		return made[x]
	}
	y := of(x.name)
	for _, a := range x.args {
		y.args = append(y.args, k.again(a, made))
	}
	return y
}

func (p *plain) pattern(i int, k **known) *tree {
	n := p.nodes[i]
	switch n.Kind {
	case api.NBind:
		*k = &known{n.Name, &tree{}, false, *k}
		return (*k).t
	case api.NAny:
		return &tree{}
	case api.NPInt:
		return of("int")
	case api.NPBool:
		return of("bool")
	case api.NPUnit:
		return of("unit")
	case api.NPTuple:
		x := of("*")
		for _, kid := range n.Kids {
			x.args = append(x.args, p.pattern(kid, k))
		}
		return x
	}
	for _, c := range p.env.Cases {
		if c.Name == n.Name {
			if c.Has != (len(n.Kids) > 0) {
				panic(wrong{})
			}
			vars := map[int]*tree{}
			x := of(c.Of)
			for i := range c.Params {
				vars[i] = &tree{}
				x.args = append(x.args, vars[i])
			}
			if c.Has {
				alike(p.pattern(n.Kids[0], k), p.fresh(c.Arg, vars))
			}
			return x
		}
	}
	panic(wrong{})
}

func (p *plain) let(n api.Node, k *known) *known {
	name := p.nodes[n.Kids[0]].Name
	t := &tree{}
	if n.Num == 1 {
		alike(t, p.expr(n.Kids[1], &known{name, t, false, k}))
	} else {
		alike(t, p.expr(n.Kids[1], k))
	}
	return &known{name, t, true, k}
}

func (p *plain) expr(i int, k *known) *tree {
	n := p.nodes[i]
	part := func(i int) *tree { return p.expr(n.Kids[i], k) }
	switch n.Kind {
	case api.NVar:
		for e := k; e != nil; e = e.outer {
			if e.name == n.Name && e.poly {
				return e.outer.again(e.t, map[*tree]*tree{})
			}
			if e.name == n.Name {
				return e.t
			}
		}
		for j := len(p.names) - 1; j >= 0; j-- {
			if p.names[j].Name == n.Name {
				return p.fresh(p.names[j].Type, map[int]*tree{})
			}
		}
		panic(wrong{})
	case api.NCtor:
		for _, c := range p.env.Cases {
			if c.Name == n.Name {
				vars := map[int]*tree{}
				x := of(c.Of)
				for i := range c.Params {
					vars[i] = &tree{}
					x.args = append(x.args, vars[i])
				}
				if c.Has {
					return of("->", p.fresh(c.Arg, vars), x)
				}
				return x
			}
		}
		panic(wrong{})
	case api.NInt:
		return of("int")
	case api.NBool:
		return of("bool")
	case api.NUnit:
		return of("unit")
	case api.NTuple:
		x := of("*")
		for i := range n.Kids {
			x.args = append(x.args, part(i))
		}
		return x
	case api.NApply:
		r := &tree{}
		alike(part(0), of("->", part(1), r))
		return r
	case api.NFun:
		v := &tree{}
		return of("->", v, p.expr(n.Kids[1], &known{p.nodes[n.Kids[0]].Name, v, false, k}))
	case api.NLetIn:
		return p.expr(n.Kids[2], p.let(n, k))
	case api.NIf:
		alike(part(0), of("bool"))
		x := part(1)
		alike(x, part(2))
		return x
	case api.NMatch:
		r, on := &tree{}, part(0)
		for _, arm := range n.Kids[1:] {
			inner := k
			alike(on, p.pattern(p.nodes[arm].Kids[0], &inner))
			alike(r, p.expr(p.nodes[arm].Kids[1], inner))
		}
		return r
	}
	a, b := part(0), part(1)
	if n.Name != "=" {
		alike(a, of("int"))
	}
	alike(a, b)
	if n.Name == "=" || n.Name == "<" {
		return of("bool")
	}
	return of("int")
}

func (x *tree) typed(numbers map[*tree]int) api.Type {
	x = x.end()
	if x.name == "" {
		if _, ok := numbers[x]; !ok {
			numbers[x] = len(numbers)
		}
		return api.Type{Kind: api.KVar, Num: numbers[x]}
	}
	t := api.Type{Kind: api.KCon, Name: x.name}
	switch x.name {
	case "*":
		t = api.Type{Kind: api.KPair}
	case "->":
		t = api.Type{Kind: api.KArrow}
	}
	for _, a := range x.args {
		t.Args = append(t.Args, a.typed(numbers))
	}
	return t
}

func (p *plain) whole() (t api.Type, ok bool) {
	defer func() {
		if _, bad := recover().(wrong); bad {
			ok = false
		}
	}()
	k := p.let(p.nodes[len(p.nodes)-1], nil)
	return k.t.typed(map[*tree]int{}), true
}

// grow: a random expression.
func grow(r *rand.Rand, deep int) string {
	names := []string{"x", "y", "f", "g"}
	name := func() string { return names[r.Intn(4)] }
	sub := func() string { return "(" + grow(r, deep-1) + ")" }
	pattern := func() string {
		return []string{"_", name(), "(x, y)", "Some x", "None", "1", "Cons (x, y)", "Nil", "(f, _)", "true", "Some (x, g)"}[r.Intn(11)]
	}
	if deep <= 0 || r.Intn(8) == 0 {
		return []string{name(), name(), name(), "1", "true", "()", "Nil", "Cons", "Some", "None", "id", "pick"}[r.Intn(12)]
	}
	switch r.Intn(11) {
	case 0, 1, 2:
		return sub() + " " + sub()
	case 3, 4:
		return "fun " + name() + " -> " + grow(r, deep-1)
	case 5, 6:
		return "let " + name() + " " + []string{"", "x", "y"}[r.Intn(3)] + " = " + grow(r, deep-1) + " in " + grow(r, deep-1)
	case 7:
		return "let rec " + name() + " x = " + grow(r, deep-1) + " in " + grow(r, deep-1)
	case 8:
		return "(" + grow(r, deep-1) + ", " + grow(r, deep-1) + ")"
	case 9:
		return "match " + sub() + " with " + pattern() + " -> " + sub() + " | " + pattern() + " -> " + sub()
	}
	return []string{"if " + sub() + " then " + sub() + " else " + sub(), sub() + " = " + sub(), sub() + " + " + sub()}[r.Intn(3)]
}

// P16.1, P16.2 against the plain way.
func TestPlain(t *testing.T) {
	r := rand.New(rand.NewSource(1))
	e, names := someEnv(t), someNames()
	typed, untyped := 0, 0
	for range 20000 {
		s := "let " + []string{"a", "rec x", "f x", "a x y f g"}[r.Intn(4)] + " = " + grow(r, 1+r.Intn(5))
		nodes, wrong := parse.One(s)
		if wrong.Code != 0 {
			t.Fatal(s, wrong)
		}
		x, f := Scheme(e, names, nodes)
		if f.Code == api.FaultTwice || f.Code == api.FaultLarge {
			continue
		}
		want, ok := (&plain{nodes, e, names}).whole()
		if ok != (f.Code == 0) || ok && !types.Same(want, x.Type) {
			a, _ := types.Show(want)
			b, _ := types.Show(x.Type)
			t.Fatalf("%s: %s %v, want %s %v", s, b, f, a, ok)
		}
		if ok {
			typed++
		} else {
			untyped++
		}
	}
	if typed < 2000 || untyped < 2000 {
		t.Error(typed, untyped)
	}
}
