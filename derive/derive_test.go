package derive

import (
	"math/rand"
	"slices"
	"strings"
	"testing"

	"parlance/api"
	"parlance/data"
	"parlance/infer"
	"parlance/parse"
	"parlance/types"
)

func typ(s string) api.Type {
	t, e := types.Read(s)
	if e != api.OK {
		panic(s)
	}
	return t
}

func someEnv(t testing.TB) api.Env {
	e := data.Base()
	for _, s := range []string{"type 'a list = Nil | Cons of 'a * 'a list", "type 'a option = None | Some of 'a", "type 'a 'b t = T of 'b -> 'a | U of int"} {
		nodes, _ := parse.One(s)
		var f api.Fault
		if e, f = data.Declare(e, nodes); f.Code != 0 {
			t.Fatal(s, f)
		}
	}
	return e
}

func someNames() []api.Export {
	return []api.Export{{Name: "id", Type: typ("'a -> 'a")}, {Name: "one", Type: typ("bool")}, {Name: "one", Type: typ("int")}}
}

// told: a declaration's nodes, and types told as texts with ";" between, in the order of the list.
func told(t *testing.T, s, list string) ([]api.Node, []api.Type) {
	t.Helper()
	nodes, f := parse.One(s)
	if f.Code != 0 {
		t.Fatal(s, f)
	}
	var out []api.Type
	for _, w := range strings.Split(list, ";") {
		w = strings.TrimSpace(w)
		if w == "" {
			out = append(out, api.Type{})
			continue
		}
		out = append(out, typ(w))
	}
	if len(out) != len(nodes) {
		t.Fatalf("%s: %d nodes, %d types", s, len(nodes), len(out))
	}
	return nodes, out
}

// P17.1: each rule, held and broken; wrong: the places in the list.
func TestWrong(t *testing.T) {
	for _, c := range []struct {
		s, list string
		wrong   []int
	}{
		// let id x = x: id x x fun let
		{"let id x = x", "int -> int; int; int; int -> int; int -> int", nil}, {"let id x = x", "'a -> 'a; 'a; 'a; 'a -> 'a; 'a -> 'a", nil}, {"let id x = x", "'a -> int; int; int; 'a -> int; 'a -> int", []int{3}}, {"let id x = x", "int -> int; int; bool; int -> bool; int -> bool", []int{2, 4}},
		{"let id x = x", "int -> int; int; int; int -> int; 'a", []int{4}}, {"let id x = x", "'b -> 'b; 'b; 'b; 'b -> 'b; 'b -> 'b", nil}, {"let id x = x", "; int; int; int -> int; int -> int", []int{0, 4}}, {"let id x = x", "int -> int; ; ; int -> int; int -> int", []int{1, 2, 3}},
		{"let a = 1", "int; int; int", nil}, {"let a = 1", "bool; bool; bool", []int{1}}, {"let a = 1", "int; int; bool", []int{2}}, {"let a = 1", "bool; int; bool", []int{2}}, {"let a = true", "bool; bool; bool", nil}, {"let a = true", "int; int; int", []int{1}}, {"let a = ()", "unit; unit; unit", nil}, {"let a = ()", "'a; 'a; 'a", []int{1}}, {"let a = 1", "int list; int list; int list", []int{1}},
		{"let a = (1, ())", "int * unit; int; unit; int * unit; int * unit", nil}, {"let a = (1, ())", "unit * int; int; unit; unit * int; unit * int", []int{3}}, {"let a = (1, ())", "int; int; unit; int; int", []int{3}},
		{"let a = id 1", "int; int -> int; int; int; int", nil}, {"let a = id 1", "'a; int -> 'a; int; 'a; 'a", []int{1}}, {"let a = id 1", "'a; 'a -> 'a; int; 'a; 'a", []int{3}}, {"let a = id 1", "int; int -> int; int; bool; int", []int{3, 4}},
		{"let a = one", "int; int; int", nil}, {"let a = one", "bool; bool; bool", []int{1}}, {"let a = two", "int; int; int", []int{1}}, {"let a = a", "int; int; int", []int{1}}, {"let rec a = a", "int; int; int", nil}, {"let rec a = a", "int; bool; int", []int{1, 2}},
		{"let f x = if x then 1 else 2", "bool -> int; bool; bool; int; int; int; bool -> int; bool -> int", nil}, {"let f x = if x then 1 else 2", "int -> int; int; int; int; int; int; int -> int; int -> int", []int{5}}, {"let f x = if x then 1 else ()", "bool -> int; bool; bool; int; unit; int; bool -> int; bool -> int", []int{5}}, {"let f x = if x then 1 else 2", "bool -> 'a; bool; bool; int; int; 'a; bool -> 'a; bool -> 'a", []int{5}},
		{"let a = 1 + 2", "int; int; int; int; int", nil}, {"let a = 1 - 2", "bool; int; int; bool; bool", []int{3}}, {"let a = 1 * ()", "int; int; unit; int; int", []int{3}}, {"let a = () + 1", "int; unit; int; int; int", []int{3}}, {"let a = 1 < 2", "bool; int; int; bool; bool", nil}, {"let a = 1 < 2", "int; int; int; int; int", []int{3}}, {"let a = () < ()", "bool; unit; unit; bool; bool", []int{3}}, {"let a = () = ()", "bool; unit; unit; bool; bool", nil}, {"let a = () = 1", "bool; unit; int; bool; bool", []int{3}}, {"let a = 1 = 1", "int; int; int; int; int", []int{3}},
		{"let a = Nil", "int list; int list; int list", nil}, {"let a = Nil", "int option; int option; int option", []int{1}}, {"let a = Some", "'a -> 'a option; 'a -> 'a option; 'a -> 'a option", nil}, {"let a = Some", "'a -> 'b option; 'a -> 'b option; 'a -> 'b option", []int{1}}, {"let a = Foo", "int; int; int", []int{1}},
		// let a = match 1 with x -> x: a 1 x x arm match let
		{"let a = match 1 with x -> x", "int; int; int; int; int -> int; int; int", nil}, {"let a = match 1 with x -> x", "bool; int; bool; bool; bool -> bool; bool; bool", []int{5}}, {"let a = match 1 with x -> x", "int; int; int; int; int -> bool; int; int", []int{4, 5}}, {"let a = match 1 with x -> x", "bool; int; int; int; int -> int; bool; bool", []int{5}}, {"let a = match 1 with _ -> ()", "unit; int; bool; unit; bool -> unit; unit; unit", []int{5}},
		{"let a = match 1 with 2 -> () | 3 -> ()", "unit; int; int; unit; int -> unit; int; unit; int -> unit; unit; unit", nil}, {"let a = match 1 with 2 -> () | true -> ()", "unit; int; int; unit; int -> unit; bool; unit; bool -> unit; unit; unit", []int{8}}, {"let a = match 1 with () -> 2", "int; unit; int; int; unit -> int; int; int", []int{1, 2, 4}},
		{"let a = match Nil with Nil -> 1", "int; 'a list; 'a list; int; 'a list -> int; int; int", nil}, {"let a = match Nil with Nil -> 1", "int; 'a list; int; int; 'a list -> int; int; int", []int{2, 4}}, {"let a = match Nil with Nil x -> 1", "int; 'a list; int; 'a list; int; 'a list -> int; int; int", []int{3}}, {"let a = match Nil with Cons -> 1", "int; 'a list; 'a list; int; 'a list -> int; int; int", []int{2}},
		{"let a = match Nil with Cons x -> 1", "int; 'b list; 'b * 'b list; 'b list; int; 'b list -> int; int; int", nil}, {"let a = match Nil with Cons x -> 1", "int; 'b list; 'b * 'a list; 'b list; int; 'b list -> int; int; int", []int{3}}, {"let a = match Nil with Foo x -> 1", "int; int list; int; int list; int; int list -> int; int; int", []int{3}}, {"let a = match 1 with T x -> 2", "int; int; bool -> unit; (unit, bool) t; int; (unit, bool) t -> int; int; int", []int{6}}, {"let a = fun y -> match y with U x -> 2", "('a, 'b) t -> int; ('a, 'b) t; ('a, 'b) t; int; ('a, 'b) t; int; ('a, 'b) t -> int; int; ('a, 'b) t -> int; ('a, 'b) t -> int", nil},
		// let a = let i x = x in i: a i x x fun i letin let
		{"let a = let i x = x in i", "int -> int; 'a -> 'a; 'a; 'a; 'a -> 'a; int -> int; int -> int; int -> int", nil}, {"let a = let i x = x in i", "int -> bool; 'a -> 'a; 'a; 'a; 'a -> 'a; int -> bool; int -> bool; int -> bool", []int{5}}, {"let a = let i x = x in i", "int -> int; int -> int; int; int; int -> int; 'a -> 'a; int -> int; int -> int", []int{5, 6}}, {"let a = let i x = x in i", "'a -> 'a; 'a -> 'b; 'a; 'a; 'a -> 'a; 'a -> 'a; 'a -> 'a; 'a -> 'a", []int{6}},
		// let f y = let i x = (x, y) in i: f y i x x y tuple fun i letin fun let
		{"let f y = let i x = (x, y) in i", "'b -> int -> int * 'b; 'b; 'a -> 'a * 'b; 'a; 'a; 'b; 'a * 'b; 'a -> 'a * 'b; int -> int * 'b; int -> int * 'b; 'b -> int -> int * 'b; 'b -> int -> int * 'b", nil}, {"let f y = let i x = (x, y) in i", "'b -> int -> int * int; 'b; 'a -> 'a * 'b; 'a; 'a; 'b; 'a * 'b; 'a -> 'a * 'b; int -> int * int; int -> int * int; 'b -> int -> int * int; 'b -> int -> int * int", []int{8}},
		// the variable of y is the one of x, so it stays
		{"let f y = let i x = (x, y) in i", "'a -> int -> int * 'a; 'a; 'a -> 'a * 'a; 'a; 'a; 'a; 'a * 'a; 'a -> 'a * 'a; int -> int * 'a; int -> int * 'a; 'a -> int -> int * 'a; 'a -> int -> int * 'a", []int{8}},
	} {
		nodes, list := told(t, c.s, c.list)
		got := Wrong(someEnv(t), someNames(), nodes, list)
		if !slices.Equal(got, c.wrong) || Check(someEnv(t), someNames(), nodes, list) != (len(c.wrong) == 0) {
			t.Errorf("%s: %s: %v, want %v", c.s, c.list, got, c.wrong)
		}
	}
}

// P17.1: parts' types that aren't right are asked field by field.
func TestNotRight(t *testing.T) {
	odd := api.Type{Kind: api.KCon, Name: "int", Num: 5}
	far := api.Type{Kind: api.KVar, Num: -3}
	fn := func(a, b api.Type) api.Type { return api.Type{Kind: api.KArrow, Args: []api.Type{a, b}} }
	check := func(s string, wrong []int, list ...api.Type) {
		t.Helper()
		nodes, _ := parse.One(s)
		if got := Wrong(someEnv(t), someNames(), nodes, list); !slices.Equal(got, wrong) {
			t.Errorf("%s: %v, want %v", s, got, wrong)
		}
	}
	i, b := typ("int"), typ("bool")
	// let a = let f = 1 in f: a f 1 f letin let
	check("let a = let f = 1 in f", []int{1, 4}, i, far, i, i, i, i)
	check("let a = let f = 1 in f", []int{1, 3, 4}, i, odd, i, i, i, i)
	check("let a = let f = 1 in f", []int{1, 4, 5}, i, fn(far, far), i, fn(i, i), fn(i, i), fn(i, i))
	check("let a = let f = 1 in f", []int{1, 3, 4, 5}, i, fn(far, far), i, fn(i, b), fn(i, b), fn(i, b))
	// a variable of a fixed binder counts where it stands in a type that isn't right: x here
	x := api.Type{Kind: api.KPair, Args: []api.Type{typ("'b")}}
	// let a x = let f = 1 in f: a x f 1 f letin fun let
	check("let a x = let f = 1 in f", []int{1, 2, 4, 5, 6}, i, x, fn(typ("'b"), odd), i, fn(i, odd), fn(i, odd), i, i)
	check("let a x = let f = 1 in f", []int{1, 4, 5, 6}, i, x, typ("'b"), i, i, i, i, i)
	check("let a x = let f = 1 in f", []int{1, 5, 6}, i, x, typ("'a"), i, i, i, i, i)
}

// P17.1: what can't be asked.
func TestUnaskable(t *testing.T) {
	nodes, list := told(t, "let a = 1", "int; bool; int")
	typeNodes, _ := parse.One("type t = A")
	wrong := api.Env{Families: []api.Family{{Name: "X"}}}
	for i, c := range []struct {
		e     api.Env
		names []api.Export
		nodes []api.Node
		list  []api.Type
	}{
		{wrong, nil, nodes, list}, {data.Base(), []api.Export{{Name: "X", Type: typ("int")}}, nodes, list}, {data.Base(), []api.Export{{Name: "x", Type: typ("'b")}}, nodes, list}, {data.Base(), nil, nil, nil}, {data.Base(), nil, typeNodes, list[:2]}, {data.Base(), nil, nodes, list[:2]}, {data.Base(), nil, nodes, append(list, list...)}, {data.Base(), nil, nodes[:2], list[:2]},
	} {
		if got := Wrong(c.e, c.names, c.nodes, c.list); len(got) > 0 || Check(c.e, c.names, c.nodes, c.list) {
			t.Error(i, got)
		}
	}
	if got := Wrong(data.Base(), nil, nodes, list); !slices.Equal(got, []int{1, 2}) {
		t.Error(got)
	}
}

// grow: a random expression.
func grow(r *rand.Rand, deep int) string {
	name := func() string { return []string{"x", "y", "f"}[r.Intn(3)] }
	sub := func() string { return "(" + grow(r, deep-1) + ")" }
	if deep <= 0 || r.Intn(8) == 0 {
		return []string{name(), name(), name(), "1", "()", "Nil", "Cons", "Some", "id"}[r.Intn(9)]
	}
	switch r.Intn(9) {
	case 0, 1:
		return sub() + " " + sub()
	case 2, 3:
		return "fun " + name() + " -> " + grow(r, deep-1)
	case 4, 5:
		return "let " + name() + " = " + grow(r, deep-1) + " in " + grow(r, deep-1)
	case 6:
		return "let rec " + name() + " x = " + grow(r, deep-1) + " in " + grow(r, deep-1)
	case 7:
		return "(" + grow(r, deep-1) + ", " + grow(r, deep-1) + ")"
	}
	return "match " + sub() + " with Some x -> " + sub() + " | y -> " + sub()
}

// P3: what infer finds is a typing; another type at one node is none (but for what is as general).
func TestInferred(t *testing.T) {
	r := rand.New(rand.NewSource(1))
	e, names := someEnv(t), someNames()
	n := 0
	for range 8000 {
		s := "let a x y f = " + grow(r, 1+r.Intn(5))
		nodes, _ := parse.One(s)
		list, f := infer.Infer(e, names, nodes)
		if f.Code != 0 {
			continue
		}
		n++
		if got := Wrong(e, names, nodes, list); len(got) > 0 || !Check(e, names, nodes, list) {
			t.Fatal(s, got)
		}
		i := r.Intn(len(nodes))
		other := slices.Clone(list)
		other[i] = typ([]string{"int", "bool", "'z9", "int list"}[r.Intn(4)])
		if k := nodes[i].Kind; k != api.NAny && !types.Same(other[i], list[i]) && Check(e, names, nodes, other) && list[i].Kind != api.KVar {
			t.Fatal(s, i)
		}
	}
	if n < 800 {
		t.Error(n)
	}
}

// P17.2
func TestMemory(t *testing.T) {
	nodes, list := told(t, "let id x = x", "int -> int; int; int; int -> int; int -> int")
	Wrong(data.Base(), nil, nodes, list)
	again, same := told(t, "let id x = x", "int -> int; int; int; int -> int; int -> int")
	for i := range nodes {
		if !types.Same(list[i], same[i]) || nodes[i].Name != again[i].Name {
			t.Error(i)
		}
	}
}
