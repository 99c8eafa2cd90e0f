package unify

import (
	"math/rand"
	"reflect"
	"testing"

	"parlance/api"
	"parlance/types"
)

func show(t *testing.T, s *Store, nodes ...int) []string {
	t.Helper()
	list, e := s.Types(nodes...)
	if e != api.OK {
		t.Fatal(e)
	}
	var out []string
	for _, x := range list {
		w, _ := types.Show(x)
		out = append(out, w)
	}
	return out
}

func want(t *testing.T, got []string, list ...string) {
	t.Helper()
	if !reflect.DeepEqual(got, list) {
		t.Errorf("%q, want %q", got, list)
	}
}

// P13.1
func TestNodes(t *testing.T) {
	s := New()
	if s.Len() != 0 {
		t.Error(s.Len())
	}
	x, y := s.Var(), s.Var()
	i, e := s.Con("int")
	l, f := s.Con("list", x)
	p, g := s.Pair(x, i, y)
	a, h := s.Arrow(p, l)
	if e != 0 || f != 0 || g != 0 || h != 0 || s.Len() != 6 || x != 0 || y != 1 || a != 5 {
		t.Error(e, f, g, h, s.Len())
	}
	want(t, show(t, s, a, y, x), "'a * int * 'b -> 'a list", "'b", "'a")
	bad := []int{-1, 6, 1 << 62, -1 << 63}
	for _, n := range bad {
		for _, c := range []func() (int, api.Errno){
			func() (int, api.Errno) { return s.Con("Int", x, n) }, func() (int, api.Errno) { return s.Pair(n) }, func() (int, api.Errno) { return s.Pair(x, n) }, func() (int, api.Errno) { return s.Arrow(n, x) }, func() (int, api.Errno) { return s.Arrow(x, n) },
			func() (int, api.Errno) { return s.Copy(n) }, func() (int, api.Errno) { return s.Copy(a, x, n) },
		} {
			if m, e := c(); m != 0 || e != api.ErrUnknown {
				t.Error(n, m, e)
			}
		}
		if s.Unify(n, x) != api.ErrUnknown || s.Unify(x, n) != api.ErrUnknown || s.Alike(n, x) || s.Alike(x, n) || s.Alike(n, n) || s.Size(n) != 0 {
			t.Error(n)
		}
		if l, e := s.Types(x, n); len(l) != 0 || e != api.ErrUnknown {
			t.Error(l, e)
		}
	}
	for _, name := range []string{"", "Int", "let", "a b", "'a", "_", "1"} {
		if n, e := s.Con(name, x); n != 0 || e != api.ErrType {
			t.Error(name, n, e)
		}
	}
	for _, c := range [][]int{nil, {x}} {
		if n, e := s.Pair(c...); n != 0 || e != api.ErrType {
			t.Error(n, e)
		}
	}
	if s.Len() != 6 {
		t.Error(s.Len())
	}
	if l, e := s.Types(); len(l) != 0 || e != api.OK {
		t.Error(l, e)
	}
}

// P13.2
func TestUnify(t *testing.T) {
	s := New()
	x, y, z := s.Var(), s.Var(), s.Var()
	i, _ := s.Con("int")
	b, _ := s.Con("bool")
	xx, _ := s.Arrow(x, x)
	iy, _ := s.Arrow(i, y)
	if e := s.Unify(xx, iy); e != api.OK {
		t.Error(e)
	}
	want(t, show(t, s, x, y, z, xx), "int", "int", "'a", "int -> int")
	lz, _ := s.Con("list", z)
	zb, _ := s.Pair(z, b)
	lzi, _ := s.Pair(lz, i)
	if s.Unify(z, lz) != api.ErrCycle || s.Unify(lz, z) != api.ErrCycle || s.Unify(zb, lzi) != api.ErrClash || s.Unify(i, b) != api.ErrClash || s.Unify(xx, lz) != api.ErrClash || s.Unify(x, b) != api.ErrClash {
		t.Error("errors")
	}
	want(t, show(t, s, x, y, z, xx), "int", "int", "'a", "int -> int")
	if s.Unify(z, z) != api.OK || s.Unify(lz, lz) != api.OK || s.Unify(i, i) != api.OK {
		t.Error("itself")
	}
	three, _ := s.Pair(z, z, z)
	two, _ := s.Pair(z, z)
	other, _ := s.Con("list", z, z)
	named, _ := s.Con("set", z)
	for _, n := range []int{two, other, lz, named, xx, i} {
		if s.Unify(three, n) != api.ErrClash {
			t.Error(n)
		}
	}
	if s.Unify(lz, other) != api.ErrClash || s.Unify(lz, named) != api.ErrClash {
		t.Error("list")
	}
}

// P13.2: a clash comes ahead of a cycle, wherever it stands; with an error nothing has changed.
func TestClashFirst(t *testing.T) {
	s := New()
	x, y, u := s.Var(), s.Var(), s.Var()
	i, _ := s.Con("int")
	b, _ := s.Con("bool")
	lx, _ := s.Con("list", x)
	for _, c := range [][2][]int{{{x, i}, {lx, b}}, {{i, x}, {b, lx}}, {{y, x, y, x}, {i, lx, u, b}}} {
		p, _ := s.Pair(c[0]...)
		q, _ := s.Pair(c[1]...)
		if e := s.Unify(p, q); e != api.ErrClash {
			t.Error(e)
		}
	}
	p, _ := s.Pair(y, x)
	q, _ := s.Pair(u, lx)
	if e := s.Unify(p, q); e != api.ErrCycle {
		t.Error(e)
	}
	if s.Alike(y, u) || s.Alike(x, lx) || s.Alike(y, i) {
		t.Error("changed")
	}
	want(t, show(t, s, x, y, u, lx), "'a", "'b", "'c", "'a list")
	// a cycle through two types
	ly, _ := s.Con("list", y)
	if s.Unify(x, ly) != api.OK || s.Unify(y, lx) != api.ErrCycle {
		t.Error("two")
	}
}

// P13.2
func TestAlike(t *testing.T) {
	s := New()
	x, y := s.Var(), s.Var()
	i, _ := s.Con("int")
	j, _ := s.Con("int")
	k, _ := s.Con("int", x)
	a, _ := s.Arrow(x, i)
	b, _ := s.Arrow(y, j)
	if !s.Alike(i, j) || s.Alike(i, k) || s.Alike(a, b) || s.Alike(x, y) || !s.Alike(x, x) || s.Alike(x, i) || s.Alike(i, x) {
		t.Error("alike")
	}
	s.Unify(x, y)
	if !s.Alike(a, b) || !s.Alike(x, y) || s.Len() != 7 {
		t.Error("alike")
	}
}

// P13.2, P13.3: types that are large as texts and small as nodes take no time.
func TestLarge(t *testing.T) {
	s := New()
	v, w := s.Var(), s.Var()
	p, q := v, w
	for range 2000 {
		p, _ = s.Pair(p, p)
		q, _ = s.Pair(q, q)
	}
	if s.Alike(p, q) || s.Size(p) != 301 {
		t.Error("alike")
	}
	if s.Unify(p, q) != api.OK || !s.Alike(p, q) || !s.Alike(v, w) {
		t.Error("unify")
	}
	if s.Unify(v, p) != api.ErrCycle {
		t.Error("cycle")
	}
	if l, e := s.Types(v, p); len(l) != 0 || e != api.ErrType {
		t.Error(e)
	}
	if n, e := s.Copy(p); n != 0 || e != api.ErrType {
		t.Error(n, e)
	}
	if n, e := s.Copy(w, p); e != api.OK || !s.Alike(n, v) {
		t.Error(n, e)
	}
}

// P13.3
func TestSize(t *testing.T) {
	s := New()
	x := s.Var()
	n, _ := s.Con("list", x)
	for want := 2; want < 400; want++ {
		if got := s.Size(n); got != min(want, 301) {
			t.Fatal(want, got)
		}
		if l, e := s.Types(n); (e == api.OK) != (want <= 300) || e == api.OK && !types.Right(l[0]) {
			t.Fatal(want, e)
		}
		if _, e := s.Copy(n); (e == api.OK) != (want <= 300) {
			t.Fatal(want, e)
		}
		n, _ = s.Con("list", n)
	}
	y := s.Var()
	p, _ := s.Pair(y, y, x)
	if s.Size(y) != 1 || s.Size(p) != 4 {
		t.Error("size")
	}
	l, _ := s.Con("list", x)
	s.Unify(y, l)
	if s.Size(y) != 2 || s.Size(p) != 6 {
		t.Error("size")
	}
}

// P13.4
func TestCopy(t *testing.T) {
	s := New()
	a, b := s.Var(), s.Var()
	f, _ := s.Arrow(a, b)
	g, _ := s.Pair(f, f, a)
	c, e := s.Copy(g, a)
	if e != api.OK {
		t.Error(e)
	}
	want(t, show(t, s, a, b, c), "'a", "'b", "('a -> 'c) * ('a -> 'c) * 'a")
	c, _ = s.Copy(g)
	want(t, show(t, s, a, b, c), "'a", "'b", "('c -> 'd) * ('c -> 'd) * 'c")
	l, _ := s.Con("list", b)
	c, _ = s.Copy(g, l, a)
	want(t, show(t, s, g, c), "('a -> 'b) * ('a -> 'b) * 'a", "('a -> 'b) * ('a -> 'b) * 'a")
	c, _ = s.Copy(a)
	if s.Alike(c, a) {
		t.Error("new")
	}
	c, _ = s.Copy(a, a)
	if !s.Alike(c, a) {
		t.Error("kept")
	}
	s.Unify(a, l)
	c, _ = s.Copy(f, b)
	want(t, show(t, s, f, c), "'a list -> 'a", "'a list -> 'a")
	c, _ = s.Copy(f)
	want(t, show(t, s, f, c), "'a list -> 'a", "'b list -> 'b")
}

// P13.5
func TestMemory(t *testing.T) {
	s, other := New(), New()
	args := []int{s.Var(), s.Var()}
	p, _ := s.Pair(args...)
	args[0] = 1
	want(t, show(t, s, p), "'a * 'b")
	l, _ := s.Types(p, p)
	l[0].Args[0].Num = 9
	want(t, show(t, s, p), "'a * 'b")
	if l[1].Args[0].Num != 0 || other.Len() != 0 {
		t.Error(l)
	}
}

// term: a type for the plain way to unify: by putting what variables stand for in their places.
type term struct {
	name string
	args []term
	v    int
}

func (x term) put(v int, y term) term {
	if x.name == "" {
		if x.v == v {
			return y
		}
		return x
	}
	out := term{name: x.name}
	for _, a := range x.args {
		out.args = append(out.args, a.put(v, y))
	}
	return out
}

func (x term) has(v int) bool {
	if x.name == "" {
		return x.v == v
	}
	for _, a := range x.args {
		if a.has(v) {
			return true
		}
	}
	return false
}

// plain: Robinson's way; variables' terms are put into all of them.
func plain(known []term, a, b term) ([]term, api.Errno) {
	work := [][2]term{{a, b}}
	for len(work) > 0 {
		p := work[0]
		work = work[1:]
		if reflect.DeepEqual(p[0], p[1]) {
			continue
		}
		if p[0].name != "" {
			p[0], p[1] = p[1], p[0]
		}
		if p[0].name != "" {
			if p[0].name != p[1].name || len(p[0].args) != len(p[1].args) {
				return nil, api.ErrClash
			}
			for i := range p[0].args {
				work = append(work, [2]term{p[0].args[i], p[1].args[i]})
			}
			continue
		}
		if p[1].has(p[0].v) {
			return nil, api.ErrCycle
		}
		next := make([]term, len(known))
		for i, x := range known {
			next[i] = x.put(p[0].v, p[1])
		}
		known = next
		for i := range work {
			work[i] = [2]term{work[i][0].put(p[0].v, p[1]), work[i][1].put(p[0].v, p[1])}
		}
	}
	return known, api.OK
}

func (x term) typed(numbers map[int]int) api.Type {
	if x.name == "" {
		if _, ok := numbers[x.v]; !ok {
			numbers[x.v] = len(numbers)
		}
		return api.Type{Kind: api.KVar, Num: numbers[x.v]}
	}
	t := api.Type{Kind: api.KCon, Name: x.name}
	if x.name == "*" || x.name == "->" {
		t = api.Type{Kind: map[string]int{"*": api.KPair, "->": api.KArrow}[x.name]}
	}
	for _, a := range x.args {
		t.Args = append(t.Args, a.typed(numbers))
	}
	return t
}

// P13.1 to P13.3 against the plain way. (Where a clash and a cycle both are, the plain way may find either: then the store tells the clash.)
func TestAny(t *testing.T) {
	r := rand.New(rand.NewSource(1))
	counts := map[api.Errno]int{}
	for range 20000 {
		s := New()
		var known []term
		for range 4 {
			s.Var()
			known = append(known, term{v: len(known)})
		}
		for range 12 {
			a, b := r.Intn(len(known)), r.Intn(len(known))
			if r.Intn(3) > 0 && len(known) < 14 {
				switch r.Intn(4) {
				case 0:
					s.Con("int")
					known = append(known, term{name: "int"})
				case 1:
					s.Con("list", a)
					known = append(known, term{name: "list", args: []term{known[a]}})
				case 2:
					s.Arrow(a, b)
					known = append(known, term{name: "->", args: []term{known[a], known[b]}})
				case 3:
					s.Pair(a, b)
					known = append(known, term{name: "*", args: []term{known[a], known[b]}})
				}
				continue
			}
			if s.Alike(a, b) != reflect.DeepEqual(known[a], known[b]) {
				t.Fatal("alike", known[a], known[b])
			}
			next, e := plain(known, known[a], known[b])
			got := s.Unify(a, b)
			counts[got]++
			if got != e && !(e == api.ErrCycle && got == api.ErrClash) && !(e == api.ErrClash && got == api.ErrCycle) || got == api.ErrCycle && e == api.ErrClash {
				t.Fatal(known[a], known[b], got, e)
			}
			if e == api.OK {
				known = next
			}
			big := false
			var all []int
			for i := range known {
				all = append(all, i)
				big = big || s.Size(i) > api.MaxType
			}
			if big {
				break
			}
			list, _ := s.Types(all...)
			numbers := map[int]int{}
			for i, x := range known {
				if w := x.typed(numbers); !types.Same(w, list[i]) {
					t.Fatal(w, list[i])
				}
			}
		}
	}
	if counts[api.OK] < 1000 || counts[api.ErrClash] < 1000 || counts[api.ErrCycle] < 1000 {
		t.Error(counts)
	}
}
