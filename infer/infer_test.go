package infer

import (
	"strconv"
	"strings"
	"testing"

	"parlance/api"
	"parlance/data"
	"parlance/parse"
	"parlance/types"
)

func typ(s string) api.Type {
	t, e := types.Read(s)
	if e != api.OK {
		panic(s)
	}
	return t
}

func env(t testing.TB, texts ...string) api.Env {
	e := data.Base()
	for _, s := range texts {
		nodes, _ := parse.One(s)
		var f api.Fault
		if e, f = data.Declare(e, nodes); f.Code != 0 {
			t.Fatal(s, f)
		}
	}
	return e
}

func someEnv(t testing.TB) api.Env {
	return env(t, "type 'a list = Nil | Cons of 'a * 'a list", "type 'a option = None | Some of 'a", "type 'a 'b either = Left of 'a | Right of 'b", "type color = Red | Green", "type 'a fn = Fn of 'a -> int")
}

func someNames() []api.Export {
	return []api.Export{{Name: "id", Type: typ("'a -> 'a")}, {Name: "one", Type: typ("bool")}, {Name: "one", Type: typ("int")}, {Name: "pick", Type: typ("'a -> 'b -> 'a")}}
}

// P16.2: the types of declarations.
func TestScheme(t *testing.T) {
	e, names := someEnv(t), someNames()
	for s, want := range map[string]string{
		"let id x = x": "'a -> 'a", "let p = let f = fun x -> x in (f 1, f true)": "int * bool", "let k x y = x": "'a -> 'b -> 'a", "let a = 1 + 2 * 3 - one": "int", "let a = 1 < 2": "bool", "let a = () = ()": "bool", "let f x y = x = y": "'a -> 'a -> bool",
		"let s f g x = f x (g x)": "('a -> 'b -> 'c) -> ('a -> 'b) -> 'a -> 'c", "let a = id": "'a -> 'a", "let a = id id": "'a -> 'a", "let a = (id 1, id true)": "int * bool", "let a = pick one": "'a -> int", "let f x = if x then 1 else 2": "bool -> int", "let a = (1, true, ())": "int * bool * unit",
		"let rec map f l = match l with Nil -> Nil | Cons (x, r) -> Cons (f x, map f r)": "('a -> 'b) -> 'a list -> 'b list", "let rec f x = f x": "'a -> 'b", "let c = Cons": "'a * 'a list -> 'a list", "let c = Cons (1, Nil)": "int list", "let n = Nil": "'a list",
		"let f x = match x with Some (1, _) -> true | Some (_, y) -> y | None -> false": "(int * bool) option -> bool", "let f x = match x with (a, (b, c)) -> (c, b, a)": "'a * ('b * 'c) -> 'c * 'b * 'a", "let f x = match x with () -> 1": "unit -> int", "let f x = match x with true -> x | y -> y": "bool -> bool",
		"let f x = let y = x in (y, y)": "'a -> 'a * 'a", "let f x = let y = fun z -> x in (y 1, y true)": "'a -> 'a * 'a", "let f x = let g y = (x, y) in (g 1, g true)": "'a -> ('a * int) * ('a * bool)", "let f x = let rec g y = if true then x else g y in (g 1, g true)": "'a -> 'a * 'a",
		"let f e = match e with Left x -> Right x | Right y -> Left y": "('a, 'b) either -> ('b, 'a) either", "let f x = match x with Fn g -> g": "'a fn -> 'a -> int", "let x = let x = 1 in let x = (x, x) in x": "int * int", "let f x x = x": "'a -> 'b -> 'b", "let id = id id": "'a -> 'a", "let rec id x = id x": "'a -> 'b",
		"let a = let rec even f x = (x, x) in even": "'a -> 'b -> 'b * 'b", "let f g = let h = g in (h 1, h 2)": "(int -> 'a) -> 'a * 'a", "let f x = match x with y -> let z = y in (z, x)": "'a -> 'a * 'a", "let f = fun x -> let g = fun y -> let h = fun z -> (x, y, z) in h in g": "'a -> 'b -> 'c -> 'a * 'b * 'c", "let f b x y = if b then x else y": "bool -> 'a -> 'a -> 'a",
		"let f y x = (y, x)": "'a -> 'b -> 'a * 'b", "let x = fun y -> y": "'a -> 'a", "let f x = Red": "'a -> color",
	} {
		nodes, wrong := parse.One(s)
		if wrong.Code != 0 {
			t.Error(s, wrong)
			continue
		}
		x, f := Scheme(e, names, nodes)
		got, _ := types.Show(x.Type)
		if f.Code != 0 || got != want || x.Name != nodes[nodes[len(nodes)-1].Kids[0]].Name {
			t.Errorf("%s: %s %s %v", s, x.Name, got, f)
		}
		list, g := Infer(e, names, nodes)
		if g.Code != 0 || len(list) != len(nodes) {
			t.Errorf("%s: %v", s, g)
			continue
		}
		if closed, _ := types.Close(list[nodes[len(nodes)-1].Kids[0]]); !types.Same(closed, x.Type) || !types.Same(list[len(list)-1], list[nodes[len(nodes)-1].Kids[0]]) {
			t.Errorf("%s: %v", s, closed)
		}
	}
}

// P16.1: the types of all nodes.
func TestInfer(t *testing.T) {
	for s, want := range map[string]string{
		"let f x = let y = x in (y, 1)":        "f: 'a -> 'a * int; x: 'a; y: 'a; x: 'a; y: 'a; 1: int; (y, 1): 'a * int; let y = x in (y, 1): 'a * int; x = let y = x in (y, 1): 'a -> 'a * int; let f x = let y = x in (y, 1): 'a -> 'a * int",
		"let a = let i = fun x -> x in i i":    "a: 'a -> 'a; i: 'b -> 'b; x: 'b; x: 'b; fun x -> x: 'b -> 'b; i: ('a -> 'a) -> 'a -> 'a; i: 'a -> 'a; i i: 'a -> 'a; let i = fun x -> x in i i: 'a -> 'a; let a = let i = fun x -> x in i i: 'a -> 'a",
		"let a = match 1 with _ -> Cons":       "a: 'a * 'a list -> 'a list; 1: int; _: int; Cons: 'a * 'a list -> 'a list; _ -> Cons: int -> 'a * 'a list -> 'a list; match 1 with _ -> Cons: 'a * 'a list -> 'a list; let a = match 1 with _ -> Cons: 'a * 'a list -> 'a list",
		"let a = fun n -> match n with C -> 1": "",
	} {
		nodes, _ := parse.One(s)
		list, f := Infer(someEnv(t), someNames(), nodes)
		var out []string
		for i, x := range list {
			w, _ := types.Show(x)
			out = append(out, s[nodes[i].From:nodes[i].To]+": "+w)
		}
		if got := strings.Join(out, "; "); got != want || (f.Code != 0) != (want == "") {
			t.Errorf("%s: %s %v", s, got, f)
		}
	}
}

// large: a let whose binder's type has very many parts, by doubling.
func large(n int, tail string) string {
	s := "let big = let x0 = 1 in "
	for i := range n {
		p := strconv.Itoa(i)
		s += "let x" + strconv.Itoa(i+1) + " = (x" + p + ", x" + p + ") in "
	}
	return s + tail
}

// P16.1: faults, and which is the first.
func TestFaults(t *testing.T) {
	e, names := someEnv(t), someNames()
	name, typ, cycle, big, twice := api.FaultName, api.FaultType, api.FaultCycle, api.FaultLarge, api.FaultTwice
	for _, c := range []struct {
		s, at string // at: the bytes, "^" ahead of them
		code  int
	}{
		{"let r = fun f -> (f 1, ^f true)", "f true", typ}, {"let w = fun x -> ^x x", "x x", cycle}, {"let a = ^b", "b", name}, {"let a = ^a", "a", name}, {"let a = fun x -> ^y", "y", name}, {"let a = (let b = 1 in b) + ^b", "b", name}, {"let a = let b = ^b in b", "b", name}, {"let a = match 1 with x -> 2 | y -> ^x", "x", name},
		{"let a = ^Foo", "Foo", name}, {"let a = match 1 with ^Foo x -> x", "Foo x", name}, {"let a = (1 + true, ^b)", "b", name}, {"let a = match 1 with (x, ^x) -> y", "x", twice}, {"let a = match 1 with (x, y) -> ^z", "z", name}, {"let a = match ^y with (x, x) -> 1", "y", name}, {"let a = match 1 with Some (x, (y, ^x)) -> 1", "x", twice},
		{"let a = match 1 with (x, ^x, x) -> 1", "x", twice}, {"let a = fun x -> fun x -> match x with x -> x", "-", 0}, {"let a = ^1 + true", "1 + true", typ}, {"let a = ^1 2", "1 2", typ}, {"let a = (^id 1 2)", "id 1 2", typ}, {"let a = ^if 1 then 2 else 3", "if 1 then 2 else 3", typ}, {"let a = ^if true then 2 else ()", "if true then 2 else ()", typ},
		{"let a = 1 + (^if 2 then () else 3)", "if 2 then () else 3", typ}, {"let a = ^match 1 with true -> 1", "match 1 with true -> 1", typ}, {"let a = ^match 1 with 1 -> 1 | 2 -> ()", "match 1 with 1 -> 1 | 2 -> ()", typ}, {"let a = ^1 = ()", "1 = ()", typ}, {"let a = ^true < false", "true < false", typ},
		{"let a = match 1 with ^Some -> 1", "Some", typ}, {"let a = match 1 with ^None x -> 1", "None x", typ}, {"let a = match 1 with ^Cons 1 -> 1", "Cons 1", typ}, {"let a = match 1 with Cons (1, ^Cons (true, 2)) -> 1", "Cons (true, 2)", typ}, {"let a = match 1 with ^Cons (1, Cons (true, Nil)) -> 1", "Cons (1, Cons (true, Nil))", typ},
		{"let rec f ^x = f", "x = f", cycle}, {"let rec f = ^fun x -> f", "fun x -> f", cycle}, {"let a = let rec f = ^fun x -> f in f", "fun x -> f", cycle}, {"let a = let rec f ^x = f 1 2 in f", "x = f 1 2", cycle}, {"let rec f = ^1 + f 2", "1 + f 2", typ}, {"let rec f = ^fun x -> 1 + f", "fun x -> 1 + f", typ},
		{"let rec f x = (f 1, ^f true)", "f true", typ}, {"let f x = ^x x", "x x", cycle}, {"let f x y = (x y) (^y x)", "y x", cycle}, {"let f g = let h = g in (h 1, ^h true)", "h true", typ}, {"let f x = let y = fun z -> (x, z) in (y 1, ^x + (y true))", "x + (y true", typ},
		{large(7, "x7"), "-", 0}, {strings.Replace(large(9, "1"), "let x8 =", "let ^x8 =", 1), "x8", big}, {strings.Replace(large(7, "(x7, x7)"), "let big", "let ^big", 1), "big", big}, {large(7, "(fun ^y -> 1) (x7, x7)"), "y", big}, {large(7, "(fun y -> y) (x7, ^b)"), "b", name},
		{large(7, "fun f -> let g = f in (f (x7, x7), ^g, 1 + ())"), "g", big}, {large(7, "fun f -> let g = f in (f (x7, x7), f, (fun h -> ^1 + ()))"), "1 + ()", typ}, {strings.Replace(large(7, "fun f -> let g = f in f (x7, x7)"), "let big", "let ^big", 1), "big", big}, {large(7, "fun f -> let rec g = f in let h = f (x7, x7) in ^g"), "g", big}, {large(6, "(1, ^x6 + 1, x6, x6, x6, x6)"), "x6 + 1", typ},
	} {
		want := strings.Index(c.s, "^")
		s := strings.Replace(c.s, "^", "", 1)
		nodes, wrong := parse.One(s)
		if wrong.Code != 0 {
			t.Error(s, wrong)
			continue
		}
		list, f := Infer(e, names, nodes)
		x, g := Scheme(e, names, nodes)
		if f != g || f.Code != 0 && (len(list) > 0 || x.Name != "" || !types.Same(x.Type, api.Type{})) {
			t.Error(s, f, g)
		}
		if c.code == 0 && f.Code != 0 || c.code != 0 && f != (api.Fault{Code: c.code, From: want, To: want + len(c.at)}) {
			t.Errorf("%.80s: %v, want %d at %d", s, f, c.code, want)
		}
	}
}

// P16.1: an env, exports and nodes that can't be.
func TestWrong(t *testing.T) {
	nodes, _ := parse.One("let a = 1")
	typeNodes, _ := parse.One("type t = A")
	broken, _ := parse.One("let a = 1")
	broken[1].Num = -1
	wrong := api.Env{Families: []api.Family{{Name: "X"}}}
	for i, c := range []struct {
		e     api.Env
		names []api.Export
		nodes []api.Node
		code  int
	}{
		{wrong, nil, nodes, api.FaultData}, {wrong, nil, nil, api.FaultData}, {data.Base(), []api.Export{{Name: "X", Type: typ("int")}}, nodes, api.FaultData}, {data.Base(), []api.Export{{Name: "x", Type: typ("'b")}}, nodes, api.FaultData}, {data.Base(), []api.Export{{Name: "x"}}, nil, api.FaultData},
		{data.Base(), nil, nil, api.FaultSyntax}, {data.Base(), nil, typeNodes, api.FaultSyntax}, {data.Base(), nil, broken, api.FaultSyntax}, {data.Base(), nil, nodes[:2], api.FaultSyntax}, {data.Base(), nil, []api.Node{{Kind: api.NLet}}, api.FaultSyntax},
	} {
		list, f := Infer(c.e, c.names, c.nodes)
		x, g := Scheme(c.e, c.names, c.nodes)
		if f != (api.Fault{Code: c.code}) || g != f || len(list) > 0 || x.Name != "" {
			t.Error(i, f, g)
		}
	}
	// Exports that are in no order are right here, and the last one of a name counts.
	names := []api.Export{{Name: "z", Type: typ("int")}, {Name: "b", Type: typ("bool")}, {Name: "z", Type: typ("unit")}}
	nodes, _ = parse.One("let a = (z, b)")
	if x, f := Scheme(api.Env{Families: []api.Family{{Name: "int"}}}, names, nodes); f.Code != 0 || !types.Same(x.Type, typ("unit * bool")) {
		t.Error(x, f)
	}
}

// P16.3
func TestMemory(t *testing.T) {
	e, names := someEnv(t), []api.Export{{Name: "x", Type: typ("int list")}}
	nodes, _ := parse.One("let a = (x, Cons (1, Nil))")
	list, _ := Infer(e, names, nodes)
	first, _ := types.Show(list[0])
	for i := range list[1:] {
		for k := range list[1+i].Args {
			list[1+i].Args[k].Name = "q"
		}
	}
	if again, _ := types.Show(list[0]); again != first || names[0].Type.Args[0].Name != "int" {
		t.Error(first, again, names)
	}
}
