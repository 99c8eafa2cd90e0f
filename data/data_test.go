package data

import (
	"reflect"
	"slices"
	"strconv"
	"strings"
	"testing"

	"parlance/api"
	"parlance/parse"
	"parlance/types"
)

func typ(s string) api.Type {
	t, e := types.Read(s)
	if e != api.OK {
		panic(s)
	}
	return t
}

func same(a, b api.Env) bool {
	return slices.Equal(a.Families, b.Families) && slices.EqualFunc(a.Cases, b.Cases, func(x, y api.Case) bool {
		return x.Name == y.Name && x.Of == y.Of && x.Params == y.Params && x.Has == y.Has && types.Same(x.Arg, y.Arg)
	})
}

// declare takes texts of declarations in; the last one's fault.
func declare(t *testing.T, texts ...string) (api.Env, api.Fault) {
	t.Helper()
	e, f := Base(), api.Fault{}
	for _, s := range texts {
		nodes, wrong := parse.One(s)
		if wrong.Code != 0 {
			t.Fatal(s, wrong)
		}
		if e, f = Declare(e, nodes); f.Code == 0 && !Right(e) {
			t.Fatal(s, "isn't right")
		}
	}
	return e, f
}

// P15.1
func TestBase(t *testing.T) {
	e := Base()
	if !same(e, api.Env{Families: []api.Family{{Name: "int"}, {Name: "bool"}, {Name: "unit"}}}) || !Right(e) || !Right(api.Env{}) {
		t.Error(e)
	}
	e.Families[0].Name = "q"
	if Base().Families[0].Name != "int" {
		t.Error("shared")
	}
}

// P15.1
func TestRight(t *testing.T) {
	families := []api.Family{{Name: "int"}, {Name: "list", Params: 1}, {Name: "p", Params: 2}, {Name: "wide", Params: 100}}
	env := func(c ...api.Case) api.Env { return api.Env{Families: families, Cases: c} }
	nil0 := api.Case{Name: "Nil", Of: "list", Params: 1}
	has := func(s string) api.Case {
		return api.Case{Name: "C", Of: "list", Params: 1, Has: true, Arg: typ(s)}
	}
	for i, e := range []api.Env{env(), env(nil0), env(nil0, has("'a * 'a list")), env(has("('a, int) p -> int")), env(api.Case{Name: "W", Of: "wide", Params: 100}), env(has("int list list"))} {
		if !Right(e) {
			t.Error(i)
		}
	}
	for i, e := range []api.Env{
		{Families: []api.Family{{Name: "int"}, {Name: "int"}}}, {Families: []api.Family{{Name: "int"}, {Name: "int", Params: 1}}}, {Families: []api.Family{{Name: "Int"}}}, {Families: []api.Family{{}}}, {Families: []api.Family{{Name: "let"}}}, {Families: []api.Family{{Name: "a", Params: -1}}}, {Families: []api.Family{{Name: "a", Params: 101}}},
		env(nil0, nil0), env(api.Case{Name: "nil", Of: "list", Params: 1}), env(api.Case{Of: "list", Params: 1}), env(api.Case{Name: "Nil", Of: "lists", Params: 1}), env(api.Case{Name: "Nil", Of: "list"}), env(api.Case{Name: "Nil", Of: "list", Params: 2}), env(api.Case{Name: "Nil", Of: "list", Params: 1, Arg: typ("int")}), env(api.Case{Name: "Nil", Of: "list", Params: 1, Arg: api.Type{Num: 1}}),
		env(api.Case{Name: "Nil", Of: "list", Params: 1, Has: true}), env(has("'b")), env(has("bool")), env(has("list")), env(has("int int")), env(has("('a, 'a) list")), env(has("'a p")), env(has("int * bool -> 'a")), env(has("int" + strings.Repeat(" list", 297))),
		env(api.Case{Name: "W", Of: "wide", Params: 100, Has: true, Arg: typ("int" + strings.Repeat(" list", 198))}),
	} {
		if Right(e) {
			t.Error(i)
		}
		if out, f := Declare(e, nil); !same(out, api.Env{}) || f != (api.Fault{Code: api.FaultData}) {
			t.Error(i, out, f)
		}
	}
	if !Right(env(has("int"+strings.Repeat(" list", 296)))) || !Right(env(api.Case{Name: "W", Of: "wide", Params: 100, Has: true, Arg: typ("int" + strings.Repeat(" list", 197))})) {
		t.Error("just large enough")
	}
}

// P15.2
func TestDeclare(t *testing.T) {
	e, f := declare(t, "type 'a list = Nil | Cons of 'a * 'a list", "type 'b 'a pair = Pair of 'a * 'b | L of ('a list, int) pair -> unit list")
	want := api.Env{Families: append(Base().Families, api.Family{Name: "list", Params: 1}, api.Family{Name: "pair", Params: 2}), Cases: []api.Case{
		{Name: "Nil", Of: "list", Params: 1}, {Name: "Cons", Of: "list", Params: 1, Has: true, Arg: typ("'a * 'a list")},
		{Name: "Pair", Of: "pair", Params: 2, Has: true, Arg: typ("'b * 'a")}, {Name: "L", Of: "pair", Params: 2, Has: true, Arg: typ("('b list, int) pair -> unit list")},
	}}
	if f.Code != 0 || !same(e, want) {
		t.Error(e, f)
	}
}

// P15.2: the faults, and which comes first.
func TestFaults(t *testing.T) {
	ticks := func(n int) string {
		s := ""
		for i := range n {
			s += "'a" + strconv.Itoa(i) + " "
		}
		return s
	}
	big := "int" + strings.Repeat(" list", 296)
	for _, c := range []struct {
		s              string
		code, from, to int
	}{
		{"type int = A", api.FaultTwice, 0, 12}, {" type 'a 'a list = B | Nil", api.FaultTwice, 1, 26}, {"type " + ticks(101) + "int = A", api.FaultTwice, 0, len("type " + ticks(101) + "int = A")}, {"type " + ticks(101) + "t = Nil", api.FaultLarge, 0, len("type " + ticks(101) + "t = Nil")},
		{"type 'a 'b 'a 'b t = Nil", api.FaultTwice, 11, 13}, {"type t = Nil of 'a", api.FaultTwice, 9, 18}, {"type t = A | B | A of 'a", api.FaultTwice, 17, 24}, {"type t = A of 'a | Nil", api.FaultName, 14, 16}, {"type 'a t = A of u * 'b", api.FaultData, 17, 18}, {"type 'a t = A of 'b * u", api.FaultName, 17, 19},
		{"type t = A of u", api.FaultData, 14, 15}, {"type t = A of int list list u", api.FaultData, 14, 29}, {"type t = A of list", api.FaultData, 14, 18}, {"type t = A of (int, int) list", api.FaultData, 14, 29}, {"type 'a t = A of t", api.FaultData, 17, 18}, {"type t = A of int t", api.FaultData, 14, 19}, {"type t = A of (int list -> u list) list", api.FaultData, 27, 28},
		{"type 'a t = A of " + big, 0, 0, 0}, {"type 'a t = B | A of " + big + " list", api.FaultLarge, 16, 21 + len(big) + 5}, {"type t = A of " + big + " list", 0, 0, 0}, {"type t = A of " + big + " list list | Nil", api.FaultLarge, 9, 14 + len(big) + 10}, {"type t = A of " + big + " list list list list | Nil", api.FaultLarge, 9, 14 + len(big) + 20}, {"type " + ticks(100) + "t = A", 0, 0, 0},
	} {
		e, f := declare(t, "type 'a list = Nil | Cons of 'a * 'a list", c.s)
		if want := (api.Fault{Code: c.code, From: c.from, To: c.to}); f != want || (len(e.Families) > 0) != (c.code == 0) || c.code != 0 && len(e.Cases) > 0 {
			t.Errorf("%.60s: %v, want %v", c.s, f, want)
		}
	}
	let, _ := parse.One("let a = 1")
	typ, _ := parse.One("type t = A of int")
	broken := slices.Clone(typ)
	broken[0].Name = "Int"
	for i, nodes := range [][]api.Node{nil, let, typ[:1], broken, append(slices.Clone(typ), let...), {{Kind: api.NType}}} {
		if e, f := Declare(Base(), nodes); !same(e, api.Env{}) || f != (api.Fault{Code: api.FaultSyntax}) {
			t.Error(i, e, f)
		}
	}
	wrong := api.Env{Families: []api.Family{{Name: "X"}}}
	if e, f := Declare(wrong, let); !same(e, api.Env{}) || f != (api.Fault{Code: api.FaultData}) {
		t.Error(e, f)
	}
	moved := slices.Clone(typ)
	moved[0].From, moved[0].To, moved[0].Name = -7, 1<<40, "none"
	if _, f := Declare(Base(), moved); f != (api.Fault{Code: api.FaultData, From: -7, To: 1 << 40}) {
		t.Error(f)
	}
}

// P15.3
func TestLookup(t *testing.T) {
	e := api.Env{Cases: []api.Case{{Name: "A", Of: "x"}, {Name: "B", Of: "y", Has: true, Arg: typ("int list")}, {Name: "A", Of: "z"}}}
	if c, ok := Lookup(e, "A"); !ok || c.Of != "x" {
		t.Error(c, ok)
	}
	if c, ok := Lookup(e, "C"); ok || !reflect.DeepEqual(c, api.Case{}) {
		t.Error(c, ok)
	}
	c, ok := Lookup(e, "B")
	c.Arg.Args[0].Name = "q"
	if !ok || e.Cases[1].Arg.Args[0].Name != "int" {
		t.Error(c, ok)
	}
}

// P15.3
func TestWhole(t *testing.T) {
	for want, c := range map[string]api.Case{
		"'a * 'a list -> 'a list": {Of: "list", Params: 1, Has: true, Arg: typ("'a * 'a list")}, "'a list": {Name: "odd name", Of: "list", Params: 1, Arg: typ("int")}, "t": {Of: "t"}, "t'": {Of: "t'", Params: -5}, "'z -> t": {Of: "t", Has: true, Arg: typ("'z")}, "('a, 'b, 'c) t": {Of: "t", Params: 3},
		"(int -> int) -> t": {Of: "t", Has: true, Arg: typ("int -> int")},
	} {
		if got, ok := Whole(c); !ok || !types.Same(got, typ(want)) {
			t.Error(want, got, ok)
		}
	}
	if got, ok := Whole(api.Case{Of: "t", Params: 299}); !ok || len(got.Args) != 299 {
		t.Error(ok)
	}
	for i, c := range []api.Case{{}, {Of: "T"}, {Of: "let"}, {Of: "t", Has: true}, {Of: "t", Has: true, Arg: api.Type{Kind: api.KVar, Num: -1}}, {Of: "t", Params: 300}, {Of: "t", Params: 1<<63 - 1}, {Of: "t", Params: 298, Has: true, Arg: typ("int")}} {
		if got, ok := Whole(c); ok || !types.Same(got, api.Type{}) {
			t.Error(i, got, ok)
		}
	}
	arg := typ("int list")
	got, _ := Whole(api.Case{Of: "t", Has: true, Arg: arg})
	got.Args[0].Args[0].Name = "q"
	if arg.Args[0].Name != "int" {
		t.Error("shared")
	}
}

// P15.4
func TestMemory(t *testing.T) {
	e, _ := declare(t, "type t = A of int * int")
	nodes, _ := parse.One("type u = B")
	next, _ := Declare(e, nodes)
	next.Families[0].Name = "q"
	next.Cases[0].Arg.Args[0].Name = "q"
	if e.Families[0].Name != "int" || e.Cases[0].Arg.Args[0].Name != "int" || len(e.Cases) != 1 {
		t.Error(e)
	}
}
