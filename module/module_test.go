package module

import (
	"reflect"
	"strconv"
	"strings"
	"testing"

	"parlance/api"
	"parlance/data"
	"parlance/scheme"
	"parlance/types"
)

// told: reports as texts: name, type, fault.
func told(s string) string {
	var out []string
	for _, r := range Analyze(s) {
		w := r.Name
		if r.Typed {
			x, _ := types.Show(r.Type)
			w += ": " + x
		}
		if f := r.Fault; f.Code != 0 {
			w += " !" + strconv.Itoa(f.Code) + " " + s[r.From+f.From:r.From+f.To]
		}
		out = append(out, w)
	}
	return strings.Join(out, "; ")
}

func exported(list []api.Export) string {
	var out []string
	for _, x := range list {
		w, _ := types.Show(x.Type)
		out = append(out, x.Name+": "+w)
	}
	return strings.Join(out, "; ")
}

// P18.1
func TestAnalyze(t *testing.T) {
	for _, c := range []struct{ s, reports, exports string }{
		{"", "", ""}, {";; ;;", "", ""},
		{"let id x = x ;; let a = id 1 ;; let b = a true ;; let c = b", "id: 'a -> 'a; a: int; b !5 a true; c !4 b", "a: int; id: 'a -> 'a"},
		{"let a = 1 ;; let a = (a, ()) ;; let b = a", "a: int; a: int * unit; b: int * unit", "a: int * unit; b: int * unit"},
		{"let a = 1 ;; let a = ) ;; let b = a", "a: int; a !1 ); b !4 a", ""}, {"let a = 1 ;; let rec a ;; let b = a", "a: int; a !1 ; b !4 a", ""}, {"let a = 1 ;; let rec ;; let _ a ;; let ;; rec a ;; type a ;; a ;; let b = a", "a: int;  !1 ;  !1 _;  !1 ;  !1 rec;  !1 ;  !1 a; b: int", "a: int; b: int"},
		{"let a = 1 ;; let a = a () ;; let b = a", "a: int; a !5 a (); b !4 a", ""}, {"let a = 1 ;; let a = let", "a: int; a !1 ", ""}, {"let rec rec = 1", " !1 rec", ""}, {"let let a = 1", " !1 let", ""},
		{"type t = A of int | B ;; let a = A 1 ;; type t = C ;; let f x = match x with A n -> n | B -> 0 ;; let c = C", "t; a: t; t !9 type t = C; f: t -> int; c !4 C", "a: t; f: t -> int"},
		{"let a = 1 ;; type a = A ;; let b = (a, A)", "a: int; a; b: int * a", "a: int; b: int * a"}, {"let a = 1 ;; type a = A of b ;; type a = B ;; let b = (a, B)", "a: int; a !8 b; a; b: int * a", "a: int; b: int * a"}, {"type 'a t = A of 'a ;; let b = A", "t; b: 'a -> 'a t", "b: 'a -> 'a t"},
		{"let b = a ;; let a = 1", "b !4 a; a: int", "a: int"}, {"let a = ( ;; let b = 1", "a !1 ; b: int", "b: int"}, {"let w = fun x -> x x ;; let v = w", "w !6 x x; v !4 w", ""}, {"# ;; let a = 1", " !1 #; a: int", "a: int"},
	} {
		if got := told(c.s); got != c.reports {
			t.Errorf("%s: %s, want %s", c.s, got, c.reports)
		}
		if got := exported(Exports(c.s)); got != c.exports {
			t.Errorf("%s: exports %s, want %s", c.s, got, c.exports)
		}
	}
}

// P18.1: bytes.
func TestBytes(t *testing.T) {
	s := "let id x = x ;; let a = id 1 ;; let b = a true ;; let c = b"
	want := []api.Report{
		{From: 0, To: 12, Name: "id", Typed: true, Type: api.Type{Kind: api.KArrow, Args: []api.Type{{Kind: api.KVar}, {Kind: api.KVar}}}},
		{From: 16, To: 28, Name: "a", Typed: true, Type: api.Type{Kind: api.KCon, Name: "int"}},
		{From: 32, To: 46, Name: "b", Fault: api.Fault{Code: api.FaultType, From: 8, To: 14}},
		{From: 50, To: 59, Name: "c", Fault: api.Fault{Code: api.FaultName, From: 8, To: 9}},
	}
	got := Analyze(s)
	if len(got) != len(want) {
		t.Fatal(got)
	}
	for i, r := range got {
		if !types.Same(r.Type, want[i].Type) {
			t.Error(i, r.Type)
		}
		r.Type, want[i].Type = api.Type{}, api.Type{}
		if !reflect.DeepEqual(r, want[i]) {
			t.Error(i, r)
		}
	}
	if f := Faults(s); !reflect.DeepEqual(f, []api.Fault{{Code: api.FaultType, From: 40, To: 46}, {Code: api.FaultName, From: 58, To: 59}}) {
		t.Error(f)
	}
	if f := Faults("let a = 1"); len(f) != 0 {
		t.Error(f)
	}
}

// P18.1: exports that can't be put.
func TestLarge(t *testing.T) {
	long := strings.Repeat("n", 256)
	s := "let b = 1;; let " + long + " = 1;;let a = " + long
	r := Analyze(s)
	if r[1].Name != long || r[1].Typed || r[1].Fault != (api.Fault{Code: api.FaultLarge, To: len("let " + long + " = 1")}) || r[2].Fault.Code != api.FaultName {
		t.Error(r)
	}
	var b strings.Builder
	for i := range 1001 {
		b.WriteString("let x" + strconv.Itoa(i) + " = 1;;")
	}
	b.WriteString("let x5 = ();;let y = 1;;let x6 = ;;let y = 2")
	r = Analyze(b.String())
	if !r[999].Typed || r[1000].Fault != (api.Fault{Code: api.FaultLarge, To: len("let x1000 = 1")}) || !r[1001].Typed || r[1002].Fault.Code != api.FaultLarge || !r[1004].Typed || len(Exports(b.String())) != 1000 {
		t.Error(r[999:])
	}
	if x, ok := scheme.Find(Exports(b.String()), "x5"); !ok || x.Name != "unit" {
		t.Error(x)
	}
	wide := "let w = (1" + strings.Repeat(", 1", 255) + ")"
	if r := Analyze("let w = 1;;" + wide); r[1].Fault != (api.Fault{Code: api.FaultLarge, To: len(wide)}) || len(Exports("let w = 1;;"+wide)) != 0 {
		t.Error(r)
	}
	far := "type " + long + " = A;; let a = A;; let b = 2"
	if r := Analyze(far); r[0].Fault.Code != 0 || r[1].Fault.Code != api.FaultLarge || !r[2].Typed {
		t.Error(r)
	}
}

// P18.1, P18.2
func TestBefore(t *testing.T) {
	s := "let a = 1 ;; type t = A ;; let a = ( ;; let b = A ;;"
	want := []string{"", "a: int", "a: int", "", "b: t"}
	for k := range 4 {
		e, names, ok := Before(s, k)
		if !ok || exported(names) != want[k] || len(e.Cases) != min(k/2, 1) || !data.Right(e) {
			t.Error(k, e, exported(names), ok)
		}
	}
	for _, k := range []int{-1, 4, 5, 1 << 62, -1 << 63} {
		if e, names, ok := Before(s, k); ok || len(names) > 0 || len(e.Families) > 0 {
			t.Error(k)
		}
	}
	if _, _, ok := Before("", 0); ok {
		t.Error("none")
	}
	if e := Env(s); len(e.Families) != 4 || len(e.Cases) != 1 || exported(Exports(s)) != "b: t" {
		t.Error(e)
	}
	if e := Env(""); !reflect.DeepEqual(e, data.Base()) {
		t.Error(e)
	}
}

// P18.3
func TestMemory(t *testing.T) {
	s := "type 'a t = A of 'a * int ;; let a = (A (1, 2), 1)"
	r, x, e := Analyze(s), Exports(s), Env(s)
	r[1].Type.Args[0].Name = "q"
	x[0].Type.Args[1].Name = "r"
	e.Cases[0].Arg.Args[1].Name = "s"
	if got := told(s); got != "t; a: int t * int" {
		t.Error(got)
	}
}
