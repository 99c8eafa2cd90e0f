package parse

import (
	"slices"
	"strings"
	"testing"

	"parlance/api"
)

// tree: nodes as one text: each with its bytes, its number and its parts.
func tree(s string, nodes []api.Node, i int) string {
	names := strings.Fields("0 let type case bind var ctor int bool unit tuple apply fun letin if match arm op any pint pbool punit ptuple pcase tick name pair arrow")
	n := nodes[i]
	out := names[n.Kind] + "<" + s[n.From:n.To] + ">"
	if n.Name != "" {
		out += n.Name
	}
	if n.Num != 0 {
		out += number(n)
	}
	if len(n.Kids) == 0 {
		return out
	}
	var parts []string
	for _, kid := range n.Kids {
		parts = append(parts, tree(s, nodes, kid))
	}
	return out + "[" + strings.Join(parts, " ") + "]"
}

// P10.1: nodes, their bytes and their parts.
func TestNodes(t *testing.T) {
	for s, want := range map[string]string{
		" let id = 7 ":                                                    "let<let id = 7>[bind<id>id int<7>7]",
		"let rec f a b = (a)":                                             "let<let rec f a b = (a>1[bind<f>f fun<a b = (a>[bind<a>a fun<b = (a>[bind<b>b var<a>a]]]",
		"let f = fun a b -> ()":                                           "let<let f = fun a b -> ()>[bind<f>f fun<fun a b -> ()>[bind<a>a fun<b -> ()>[bind<b>b unit<()>]]]",
		"let a = (f) (x) (1, (2))":                                        "let<let a = (f) (x) (1, (2))>[bind<a>a apply<f) (x) (1, (2))>[apply<f) (x>[var<f>f var<x>x] tuple<(1, (2))>[int<1>1 int<2>2]]]",
		"let a = 1 - 2 + 3 * 4 * 5 < 6":                                   "let<let a = 1 - 2 + 3 * 4 * 5 < 6>[bind<a>a op<1 - 2 + 3 * 4 * 5 < 6><[op<1 - 2 + 3 * 4 * 5>+[op<1 - 2>-[int<1>1 int<2>2] op<3 * 4 * 5>*[op<3 * 4>*[int<3>3 int<4>4] int<5>5]] int<6>6]]",
		"let a = let rec b c = 1 in b = C":                                "let<let a = let rec b c = 1 in b = C>[bind<a>a letin<let rec b c = 1 in b = C>1[bind<b>b fun<c = 1>[bind<c>c int<1>1] op<b = C>=[var<b>b ctor<C>C]]]",
		"let a = if true then false else ( )":                             "let<let a = if true then false else ( )>[bind<a>a if<if true then false else ( )>[bool<true>1 bool<false> unit<( )>]]",
		"let a = match x with | C (D, _) -> 1 | 2 -> 3 | true -> 4":       "let<let a = match x with | C (D, _) -> 1 | 2 -> 3 | true -> 4>[bind<a>a match<match x with | C (D, _) -> 1 | 2 -> 3 | true -> 4>[var<x>x arm<C (D, _) -> 1>[pcase<C (D, _)>C[ptuple<(D, _)>[pcase<D>D any<_>]] int<1>1] arm<2 -> 3>[pint<2>2 int<3>3] arm<true -> 4>[pbool<true>1 int<4>4]]]",
		"let a = match b with (x) -> match c with () -> 1 | (C (y)) -> 2": "let<let a = match b with (x) -> match c with () -> 1 | (C (y)) -> 2>[bind<a>a match<match b with (x) -> match c with () -> 1 | (C (y)) -> 2>[var<b>b arm<x) -> match c with () -> 1 | (C (y)) -> 2>[bind<x>x match<match c with () -> 1 | (C (y)) -> 2>[var<c>c arm<() -> 1>[punit<()> int<1>1] arm<C (y)) -> 2>[pcase<C (y>C[bind<y>y] int<2>2]]]]]",
		"type t = A":                                 "type<type t = A>t[case<A>A]",
		"type 'a 'bc t = | A of 'a * t | B":          "type<type 'a 'bc t = | A of 'a * t | B>t2[tick<'a>a tick<'bc>bc case<A of 'a * t>A[pair<'a * t>[tick<'a>a name<t>t]] case<B>B]",
		"type t = A of (int -> (b)) list":            "type<type t = A of (int -> (b)) list>t[case<A of (int -> (b)) list>A[name<int -> (b)) list>list[arrow<int -> (b>[name<int>int name<b>b]]]]",
		"type t = A of (a, (b)) m n -> c -> (d * e)": "type<type t = A of (a, (b)) m n -> c -> (d * e>t[case<A of (a, (b)) m n -> c -> (d * e>A[arrow<(a, (b)) m n -> c -> (d * e>[name<(a, (b)) m n>n[name<(a, (b)) m>m[name<a>a name<b>b]] arrow<c -> (d * e>[name<c>c pair<d * e>[name<d>d name<e>e]]]]]",
	} {
		nodes, f := One(s)
		if f.Code != 0 {
			t.Errorf("%s: %v", s, f)
			continue
		}
		if got := tree(s, nodes, len(nodes)-1); got != want {
			t.Errorf("%s:\n%s\n%s", s, got, want)
		}
		checkShow(t, s, nodes)
	}
}

// P10.1: the order of the list.
func TestOrder(t *testing.T) {
	nodes, _ := One("let f a = match a with C (x, y) -> x y")
	var kinds []int
	for _, n := range nodes {
		kinds = append(kinds, n.Kind)
	}
	want := []int{api.NBind, api.NBind, api.NVar, api.NBind, api.NBind, api.NPTuple, api.NPCase, api.NVar, api.NVar, api.NApply, api.NArm, api.NMatch, api.NFun, api.NLet}
	if !slices.Equal(kinds, want) || !inOrder(nodes) {
		t.Error(kinds)
	}
}

// P10.1: faults.
func TestFaults(t *testing.T) {
	up := func(n int, s string) string { return strings.Repeat(s, n) }
	syntax, deep, many := api.FaultSyntax, api.FaultDeep, api.FaultMany
	for _, c := range []struct {
		s              string
		code, from, to int
	}{
		{"", syntax, 0, 0}, {" (* *) ", syntax, 7, 7}, {"x", syntax, 0, 1}, {"let", syntax, 3, 3}, {"let rec rec", syntax, 8, 11}, {"let y = )", syntax, 8, 9}, {"let a = 1 ;;", syntax, 10, 12}, {";; let a = 1", syntax, 0, 2},
		{"let a = 1 = 2 = 3", syntax, 14, 15}, {"let a = 1 + fun", syntax, 12, 15}, {"let a = #", syntax, 8, 9}, {"let a = 1 (* ", syntax, 10, 13}, {"let a = f 1073741824", syntax, 10, 20}, {"let a = 99999999999999999999", syntax, 8, 28}, {"let _ = 1", syntax, 4, 5},
		{"let a = (1, )", syntax, 12, 13}, {"let a = match 1 with", syntax, 20, 20}, {"let a = match 1 with | | 2 -> 3", syntax, 23, 24}, {"let a = match 1 with C D E -> 1", syntax, 25, 26}, {"let a = if 1 then 2", syntax, 19, 19}, {"let a = let b = 1", syntax, 17, 17},
		{"type t =", syntax, 8, 8}, {"type t = A of ()", syntax, 15, 16}, {"type t = A of (a, b)", syntax, 20, 20}, {"type t = A of (a, b) -> c", syntax, 21, 23}, {"type ('a) t = A", syntax, 5, 6}, {"type t = A B", syntax, 11, 12}, {"type t 'a = A", syntax, 7, 9}, {"type t = A of a b 'c", syntax, 18, 20}, {"type t = a", syntax, 9, 10},
		{"let a = " + up(65, "(") + "1", deep, 73, 74}, {"let a = " + up(65, "("), deep, 73, 73}, {"let a = " + up(65, "(") + "#", deep, 73, 74}, {"let a = " + up(65, "(") + "]", deep, 73, 74}, {"let a = " + up(65, "(") + ")", syntax, 74, 74},
		{"let a = " + up(65, "(") + ";;", deep, 73, 75}, {"let a = " + up(64, "(") + ")", syntax, 73, 73}, {"let a = " + up(64, "(") + "1", syntax, 73, 73}, {"let a = " + up(64, "(") + "f (", deep, 75, 75}, {"let a = " + up(64, "(") + "f (=", deep, 75, 76},
		{"let a = " + up(64, "(") + "fun x -> ", deep, 81, 81}, {"let a = " + up(64, "(") + "fun =", syntax, 76, 77}, {"let a = " + up(64, "(") + "if if", deep, 75, 77}, {"let a = " + up(64, "(") + "match with", deep, 78, 82}, {"let a = " + up(64, "(") + "let x = )", deep, 80, 81},
		{"let a = " + up(64, "(") + "let x y", syntax, 79, 79}, {"let a = " + up(63, "(") + "match 1 with (", deep, 85, 85}, {"let a = " + up(63, "(") + "match 1 with (x", deep, 85, 86}, {"let a = " + up(63, "(") + "match 1 with ()", syntax, 86, 86}, {"let a = " + up(63, "(") + "match 1 with C (in", deep, 87, 89},
		{"type t = A of " + up(65, "("), deep, 79, 79}, {"type t = A of " + up(65, "(") + ")", deep, 79, 80}, {"type t = A of " + up(64, "(") + ")", syntax, 78, 79}, {"type t = A of " + up(65, "a -> ") + "|", deep, 14 + 65*5, 15 + 65*5}, {"type t = A of " + up(65, "a -> "), deep, 13 + 65*5 + 1, 13 + 65*5 + 1},
		{"let a = (" + up(2047, "1,") + "1)", 0, 0, 0}, {"let a = " + up(2046, "f ") + "f", 0, 0, 0}, {"let a = " + up(2047, "f ") + "f", many, 0, 8 + 2047*2 + 1}, {" let a = (" + up(4094, "1,") + "1) ", many, 0, 10 + 4094*2 + 3}, {"let a = (" + up(4092, "1,") + "1)", 0, 0, 0}, {"let a = (" + up(4093, "1,") + "1)", many, 0, 9 + 4093*2 + 2},
		{"let a = (" + up(9000, "1,") + ")", syntax, 9 + 18000, 10 + 18000},
	} {
		nodes, f := One(c.s)
		if want := (api.Fault{Code: c.code, From: c.from, To: c.to}); f != want || (len(nodes) > 0) != (c.code == 0) {
			t.Errorf("%.100s: %v, want %v", c.s, f, want)
		}
	}
}

// P10.1: all that is as deep as can be.
func TestDeepEnough(t *testing.T) {
	up := func(s string) string { return strings.Repeat(s, 64) }
	for _, s := range []string{
		"let a = " + up("(") + "1" + up(")"), "let a = " + up("(") + "()" + up(")"), "let a = " + up("fun x -> ") + "f () C", "let a = " + up("if 1 then 2 else ") + "3", "let a = " + up("let b = ") + "1" + up(" in 2"), "let a = " + up("match 1 with x -> ") + "y",
		"type t = A of " + up("(") + "a" + up(")"), "type t = A of " + up("a -> ") + "b", "let a = match 1 with " + up("(")[1:] + "C 1" + up(")")[1:] + " -> 2", "let a = match 1 with " + up("(")[1:] + "()" + up(")")[1:] + " -> 2",
	} {
		nodes, f := One(s)
		if f.Code != 0 {
			t.Errorf("%.60s: %v", s, f)
			continue
		}
		checkShow(t, s, nodes)
	}
}

// P10.2
func TestParse(t *testing.T) {
	s := "let f x = x 1 ;; let y = ) ;;;; type t = A (* ;; *) ;; let"
	decls := Parse(s)
	want := []api.Decl{{From: 0, To: 13}, {From: 17, To: 26, Fault: api.Fault{Code: api.FaultSyntax, From: 8, To: 9}}, {From: 32, To: 42}, {From: 55, To: 58, Fault: api.Fault{Code: api.FaultSyntax, From: 3, To: 3}}}
	if len(decls) != len(want) {
		t.Fatal(decls)
	}
	for i, d := range decls {
		nodes, f := One(s[d.From:d.To])
		if d.From != want[i].From || d.To != want[i].To || d.Fault != want[i].Fault || d.Fault != f || !slices.EqualFunc(d.Nodes, nodes, func(a, b api.Node) bool { return alike(a, b) && a.From == b.From && a.To == b.To }) {
			t.Error(i, d)
		}
	}
	if len(Parse("")) != 0 || len(Parse(" ;; ;; (**)")) != 0 {
		t.Error("no declarations")
	}
}

// P10.3: nodes that no text has.
func TestShowErrors(t *testing.T) {
	leaf := func(kind int, name string) api.Node { return api.Node{Kind: kind, Name: name} }
	node := func(kind int, kids ...int) api.Node { return api.Node{Kind: kind, Kids: kids} }
	bind, one, let := leaf(api.NBind, "a"), api.Node{Kind: api.NInt, Num: 1}, node(api.NLet, 0, 1)
	if s, e := Show([]api.Node{bind, one, let}); s != "let a = 1" || e != api.OK {
		t.Error(s, e)
	}
	num := func(n api.Node, i int) api.Node { n.Num = i; return n }
	name := func(n api.Node, s string) api.Node { n.Name = s; return n }
	wide := []api.Node{bind}
	for range api.MaxNodes {
		wide = append(wide, one)
	}
	for i, nodes := range [][]api.Node{
		nil, {bind}, {let}, {one, let}, {bind, one, one, let}, {bind, one, node(api.NLet, 1, 0)}, {bind, one, node(api.NLet, 0, 2)}, {bind, one, node(api.NLet, 0, -1)}, {bind, one, node(api.NLet, 0)}, {bind, one, node(api.NLet, 0, 1, 1)}, {bind, bind, let}, {one, one, let}, {bind, one, num(let, 2)}, {bind, one, num(let, -1)}, {bind, one, name(let, "x")},
		{leaf(api.NBind, ""), one, let}, {leaf(api.NBind, "let"), one, let}, {leaf(api.NBind, "A"), one, let}, {leaf(api.NBind, "a b"), one, let}, {leaf(api.NBind, "a (**)"), one, let}, {leaf(api.NBind, "_"), one, let}, {num(bind, 1), one, let}, {bind, num(one, -1), let}, {bind, num(one, api.MaxInt), let}, {bind, name(one, "1"), let},
		{bind, leaf(api.NVar, "a a"), let}, {bind, leaf(api.NVar, "C"), let}, {bind, leaf(api.NVar, "1"), let}, {bind, leaf(api.NCtor, "c"), let}, {bind, {Kind: api.NBool, Num: 2}, let}, {bind, {Kind: api.NBool, Name: "true"}, let}, {bind, {Kind: api.NUnit, Num: 1}, let}, {bind, leaf(api.NTuple, ""), let}, {bind, one, node(api.NTuple, 1), node(api.NLet, 0, 2)},
		{bind, one, one, {Kind: api.NOp, Name: "/", Kids: []int{1, 2}}, node(api.NLet, 0, 3)}, {bind, one, one, node(api.NArm, 1, 2), node(api.NLet, 0, 3)}, {bind, one, node(api.NMatch, 1), node(api.NLet, 0, 2)}, {bind, one, one, node(api.NMatch, 1, 2), node(api.NLet, 0, 3)}, {bind, leaf(0, ""), let}, {bind, leaf(-7, ""), let}, {bind, leaf(99, ""), let}, {bind, leaf(api.NAny, ""), let},
		{bind, node(api.NApply, 0, 0), node(api.NLet, 0, 1)}, {bind, one, node(api.NApply, 1, 1), node(api.NLet, 0, 2)}, {node(api.NApply, 0, 0)}, append(wide, node(api.NLet, 0, 1)), {leaf(api.NType, "t")}, {leaf(api.NCase, "A"), {Kind: api.NType, Name: "T", Kids: []int{0}}}, {leaf(api.NCase, "A"), {Kind: api.NType, Name: "t", Num: 1, Kids: []int{0}}}, {leaf(api.NTick, "a"), {Kind: api.NType, Name: "t", Num: 1, Kids: []int{0}}},
		{leaf(api.NCase, "A"), leaf(api.NTick, "a"), {Kind: api.NType, Name: "t", Num: 1, Kids: []int{0, 1}}}, {leaf(api.NTick, "'a"), leaf(api.NCase, "A"), {Kind: api.NType, Name: "t", Num: 1, Kids: []int{0, 1}}}, {bind, bind, leaf(api.NTick, "a"), node(api.NFun, 1, 2), node(api.NLet, 0, 3)}, {one, one, {Kind: api.NOp, Name: "+", Kids: []int{0, 1}}},
	} {
		if s, e := Show(nodes); s != "" || e != api.ErrTree {
			t.Errorf("%d: %q %d", i, s, e)
		}
	}
}

// P10.3: what is too deep with brackets alone.
func TestShowTooDeep(t *testing.T) {
	ifs := func(n int) []api.Node {
		nodes := []api.Node{{Kind: api.NBind, Name: "a"}}
		for range 2 * n {
			nodes = append(nodes, api.Node{Kind: api.NUnit})
		}
		nodes = append(nodes, api.Node{Kind: api.NUnit})
		for i := n; i >= 1; i-- {
			nodes = append(nodes, api.Node{Kind: api.NIf, Kids: []int{2*i - 1, 2 * i, len(nodes) - 1}})
		}
		return append(nodes, api.Node{Kind: api.NLet, Kids: []int{0, len(nodes) - 1}})
	}
	if _, e := Show(ifs(64)); e != api.OK {
		t.Error(e)
	}
	if s, e := Show(ifs(65)); e != api.ErrTree || s != "" {
		t.Error(e)
	}
}

// P10.4
func TestMemory(t *testing.T) {
	nodes, _ := One("let a = (1, 2)")
	Show(nodes)
	other, _ := One("let a = (1, 2)")
	nodes[3].Kids[0] = 77
	_ = append(nodes[3].Kids, 5)
	if other[3].Kids[0] != 1 {
		t.Error(other)
	}
}
