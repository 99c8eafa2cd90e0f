package types

import (
	"math/rand"
	"strings"
	"testing"

	"parlance/api"
)

func v(n int) api.Type { return api.Type{Kind: api.KVar, Num: n} }
func con(name string, args ...api.Type) api.Type {
	return api.Type{Kind: api.KCon, Name: name, Args: args}
}
func pair(args ...api.Type) api.Type { return api.Type{Kind: api.KPair, Args: args} }
func arrow(a, b api.Type) api.Type {
	return api.Type{Kind: api.KArrow, Args: []api.Type{a, b}}
}

func repeat(n int, t api.Type) []api.Type {
	var out []api.Type
	for range n {
		out = append(out, t)
	}
	return out
}

func wrongTypes() []api.Type {
	i := con("int")
	return []api.Type{
		{}, {Kind: -1}, {Kind: 5}, v(-1), v(api.MaxInt), v(1 << 62), {Kind: api.KVar, Name: "a"}, {Kind: api.KVar, Args: []api.Type{i}}, con(""), con("Int"), con("let"), con("_"), con("a b"), con("1"), con("'a"), {Kind: api.KCon, Name: "a", Num: 1},
		pair(), pair(i), {Kind: api.KPair, Args: []api.Type{i, i}, Name: "a"}, {Kind: api.KPair, Args: []api.Type{i, i}, Num: 1}, {Kind: api.KArrow}, {Kind: api.KArrow, Args: []api.Type{i}}, {Kind: api.KArrow, Args: []api.Type{i, i, i}}, {Kind: api.KArrow, Args: []api.Type{i, i}, Num: 1}, {Kind: api.KArrow, Args: []api.Type{i, i}, Name: "a"},
		con("list", api.Type{}), pair(i, v(-1)), arrow(i, pair(i)), pair(repeat(api.MaxType, i)...), con("t", repeat(api.MaxType, v(0))...),
	}
}

// P12.1
func TestRight(t *testing.T) {
	for i, x := range wrongTypes() {
		if Right(x) {
			t.Error(i)
		}
		if y, e := Close(x); !Same(y, api.Type{}) || e != api.ErrType {
			t.Error(i, y, e)
		}
		if s, e := Show(x); s != "" || e != api.ErrType {
			t.Error(i, s, e)
		}
		if Instance(x, x) || Instance(v(0), x) || Instance(x, con("int")) {
			t.Error(i)
		}
	}
	for i, x := range []api.Type{v(0), v(api.MaxInt - 1), con("int"), con("x'", v(3)), con("_a", v(3), v(3)), pair(v(0), v(0)), arrow(v(0), v(0)), pair(repeat(api.MaxType-1, v(0))...)} {
		if !Right(x) {
			t.Error(i)
		}
	}
}

// P12.1
func TestClose(t *testing.T) {
	for _, c := range [][2]api.Type{
		{v(7), v(0)}, {con("int"), con("int")}, {arrow(pair(v(5), v(2)), con("t", v(2), v(9), v(5))), arrow(pair(v(0), v(1)), con("t", v(1), v(2), v(0)))}, {arrow(v(1), v(0)), arrow(v(0), v(1))}, {arrow(v(0), v(1)), arrow(v(0), v(1))},
	} {
		if got, e := Close(c[0]); !Same(got, c[1]) || e != api.OK {
			t.Error(c[0], got, e)
		}
	}
}

// P12.2: texts both ways.
func TestShow(t *testing.T) {
	i, a := con("int"), v(0)
	for s, x := range map[string]api.Type{
		"'a * int -> 'a list": arrow(pair(a, i), con("list", a)), "'a": a, "'z": v(25), "'a1": v(26), "'b1": v(27), "'z9": v(25 + 9*26), "'l41297762": v(api.MaxInt - 1), "int": i, "int list t": con("t", con("list", i)),
		"(int -> int) list": con("list", arrow(i, i)), "(int * int) list": con("list", pair(i, i)), "(int, 'a) t": con("t", i, a), "(int -> int, int * int, int list) t u": con("u", con("t", arrow(i, i), pair(i, i), con("list", i))),
		"(int * int) * (int -> int) * int t": pair(pair(i, i), arrow(i, i), con("t", i)), "(int -> int) -> int -> int": arrow(arrow(i, i), arrow(i, i)), "int * int -> int * int": arrow(pair(i, i), pair(i, i)), "x' _y": con("_y", con("x'")),
	} {
		if got, e := Show(x); got != s || e != api.OK {
			t.Errorf("%s: %s %d", s, got, e)
		}
		if got, e := Read(s); !Same(got, x) || e != api.OK {
			t.Errorf("%s: %v %d", s, got, e)
		}
	}
	wide, _ := Show(pair(repeat(api.MaxType-1, i)...))
	if x, e := Read(wide); e != api.OK || len(x.Args) != api.MaxType-1 {
		t.Error(e)
	}
}

// P12.2: texts that are no type's.
func TestReadErrors(t *testing.T) {
	for _, s := range []string{
		"", " ", "int ", " int", "int  list", "Int", "let", "_", "1", "'A", "'a0", "'a01", "'ab", "'a_", "'a1b", "'a'", "'a99999999999999999999", "'a41297763", "'m41297762", "(int)", "(int) list", "((int -> int)) list", "int -> (int -> int)", "(int * int) -> int", "(int, int)", "(int, int) ", "(int,int) t", "(int , int) t", "( int, int) t", "(int, int) t)",
		"int*int", "int *int", "int ->int", "int -> ", "-> int", "* int", "int *", "int * * int", "()", "() t", "(", ")", "(int", "int)", "(int, ) t", "(,) t", "int, int", "int\n* int", "int (**)", "int = int", "'a 'b", "int 'a", "int -> int list -> (int)", "\xff", "int int int \xff", strings.Repeat("(", 100000), strings.Repeat("int -> ", 100000) + "int", "int" + strings.Repeat(" list", 300), strings.Repeat("(int -> ", 1000) + "int" + strings.Repeat(")", 1000), "int" + strings.Repeat(" * int", 100000),
	} {
		if x, e := Read(s); e != api.ErrType || !Same(x, api.Type{}) {
			t.Errorf("%.40q: %v %d", s, x, e)
		}
	}
}

// random: a right type of a few parts.
func random(r *rand.Rand, deep int) api.Type {
	switch k := r.Intn(6); {
	case k < 2 || deep > 3:
		return v(r.Intn(3))
	case k == 2:
		return con([]string{"int", "t"}[r.Intn(2)])
	case k == 3:
		return con("t", repeatRandom(r, 1+r.Intn(3), deep)...)
	case k == 4:
		return pair(repeatRandom(r, 2+r.Intn(2), deep)...)
	}
	return arrow(random(r, deep+1), random(r, deep+1))
}

func repeatRandom(r *rand.Rand, n, deep int) []api.Type {
	var out []api.Type
	for range n {
		out = append(out, random(r, deep+1))
	}
	return out
}

// P12.2, P12.3 at many types.
func TestAny(t *testing.T) {
	r := rand.New(rand.NewSource(1))
	for range 30000 {
		x, y := random(r, 0), random(r, 0)
		s, _ := Show(x)
		if back, e := Read(s); e != api.OK || !Same(back, x) {
			t.Fatal(s, back, e)
		}
		u, _ := Show(y)
		if (s == u) != Same(x, y) {
			t.Fatal(s, u)
		}
		z := replace(x, func(n int) api.Type { return []api.Type{y, v(7), x}[n] })
		if Right(z) && !Instance(x, z) || !Instance(v(9), x) {
			t.Fatal(s, z)
		}
		if Instance(x, y) && Instance(y, x) {
			a, _ := Close(x)
			b, _ := Close(y)
			if !Same(a, b) {
				t.Fatal(x, y)
			}
		}
	}
}

// P12.3
func TestInstance(t *testing.T) {
	i, b, a := con("int"), con("bool"), v(0)
	for n, c := range []struct {
		general, t api.Type
		want       bool
	}{
		{arrow(a, a), arrow(i, i), true}, {arrow(a, a), arrow(i, b), false}, {arrow(a, v(1)), arrow(i, b), true}, {arrow(a, v(1)), arrow(v(1), a), true}, {a, a, true}, {i, a, false}, {a, arrow(a, i), true}, {arrow(a, a), arrow(v(1), v(2)), false}, {i, i, true}, {i, b, false},
		{con("t", a), con("t", i), true}, {con("t", a), con("u", i), false}, {con("t", a), con("t", i, i), false}, {pair(a, a), pair(i, i, i), false}, {pair(a, v(1)), arrow(i, i), false}, {arrow(a, a), arrow(arrow(i, v(3)), arrow(i, v(3))), true}, {arrow(a, a), arrow(arrow(i, v(3)), arrow(i, v(4))), false},
	} {
		if Instance(c.general, c.t) != c.want {
			t.Error(n)
		}
	}
}

// P12.3
func TestSame(t *testing.T) {
	all := append(wrongTypes()[:23], v(0), v(1), con("int"), con("t", v(0)), pair(v(0), v(1)), arrow(v(0), v(1)), arrow(v(0), v(0)))
	for i, a := range all {
		for k, b := range all {
			if Same(a, b) != (i == k) {
				t.Error(i, k)
			}
		}
	}
	if !Same(con("int"), api.Type{Kind: api.KCon, Name: "int", Args: []api.Type{}}) {
		t.Error("empty lists")
	}
}

// P12.4
func TestMemory(t *testing.T) {
	x := arrow(v(5), con("t", v(5), v(6)))
	y, _ := Close(x)
	y.Args[1].Args[0].Num = 99
	_ = append(y.Args[:1], v(1))
	if !Same(x, arrow(v(5), con("t", v(5), v(6)))) {
		t.Error(x)
	}
	list := []api.Type{con("int"), con("int")}
	z, _ := Close(pair(list...))
	z.Args[0].Name = "q"
	if list[0].Name != "int" {
		t.Error(list)
	}
}
