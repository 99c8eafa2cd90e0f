package query

import (
	"math/rand"
	"slices"
	"strconv"
	"strings"
	"testing"

	"parlance/api"
	"parlance/module"
	"parlance/text"
)

// told: uses as texts: the word, and where its binder is.
func told(s string) string {
	var out []string
	for _, u := range Resolve(s) {
		out = append(out, s[u.From:u.To]+strconv.Itoa(u.From)+">"+strconv.Itoa(u.Binder))
	}
	return strings.Join(out, " ")
}

// P19.1
func TestResolve(t *testing.T) {
	for s, want := range map[string]string{
		"": "", "type t = A of int": "", "let a = (": "", "let id x = x ;; let a = id 1": "id4>4 x7>7 x11>7 a20>20 id24>4",
		"let a = a": "a4>4 a8>-1", "let rec a = a 1": "a8>8 a12>8", "let f x = fun x -> x": "f4>4 x6>6 x14>14 x19>14", "let f x = let x = x in x": "f4>4 x6>6 x14>14 x18>6 x23>14", "let f x = let rec x = x in x": "f4>4 x6>6 x18>18 x22>18 x27>18",
		"let f x = match x with C (x, y) -> x y | y -> x": "f4>4 x6>6 x16>6 x26>26 y29>29 x35>26 y37>29 y41>41 x46>6", "let f = match 1 with (x, x) -> x": "f4>4 x22>22 x25>25 x31>25",
		"let a = 1 ;; let a = a ;; let b = a": "a4>4 a17>17 a21>4 b30>30 a34>17", "let a = 1 ;; let a = a () ;; let b = a": "a4>4 a17>17 a21>4 b33>33 a37>-1", "let a = 1 ;; let a = ) ;; let b = a": "a4>4 b30>30 a34>-1", "let a = 1 ;; type a = A ;; let b = a": "a4>4 b31>31 a35>4", "let a = 1 ;; type int = A ;; let b = a": "a4>4 b33>33 a37>4",
		"let b = a ;; let a = 1": "b4>4 a8>-1 a17>17", "let a = let b = 1 in (b, c) ;; let d = b": "a4>4 b12>12 b22>12 c25>-1 d35>35 b39>-1", "let a = 1;;#;;let b = (a)": "a4>4 b18>18 a23>4",
	} {
		if got := told(s); got != want {
			t.Errorf("%s: %s, want %s", s, got, want)
		}
	}
}

// P19.2: places are marked by "^"; what is told: the bytes and the words.
func TestHover(t *testing.T) {
	for marked, want := range map[string]string{
		"let id x = x ;; let a = ^id 1": "id: int -> int", "let id x = ^x ;; let a = id 1": "x: 'a", "let ^id x = x": "id: 'a -> 'a", "let i^d x = x": "id: 'a -> 'a", "^let id x = x": "let id x = x: 'a -> 'a", "let id^ x = x": "let id x = x: 'a -> 'a", "let id x^ = x": "x = x: 'a -> 'a", "let id x = x^": "", "let id x = x^ ;; let a = 1": "", "let id x = x ^;; let a = 1": "",
		"let a = (^1)": "1: int", "let a = ^(1)": "let a = (1: int", "let a = (1^)": "", "let a = (1^, 2)": "(1, 2): int * int", "let f x y = ^(x, y)": "(x, y): 'a * 'b", "let f x y = (x, ^y)": "y: 'a", "let a = f^oo": "", "let a = ^1 + ()": "", "let a = (^": "", "^": "", "let a = 1 ;; let b = (^a, 2)": "a: int", "let a = match (1, 2) with (_, ^_) -> 1": "_: int",
		"type 'a t = ^A of 'a": "A of 'a: 'a -> 'a t", "type 'a t = A of ^'a": "", "type 'a t = A ^of 'a": "A of 'a: 'a -> 'a t", "type 'b t = B | ^A": "A: 'a t", "^type t = A": "", "type t = A ^| B": "", "type ^'a t = A": "", "type t = ^A ;; type u = A": "A: t", "type t = A ;; type u = ^A": "", "type t = A of int^ ": "", "type 'a 'b t = A of 'b *^ 'a": "",
		"let f x = let g = fun y -> ^y in (g 1, x)": "y: 'a", "let f x = let g = fun y -> (x, y) in (^g 1, x)": "g: int -> 'a * int",
	} {
		at := strings.Index(marked, "^")
		s := strings.Replace(marked, "^", "", 1)
		got := ""
		info, ok := Hover(s, at)
		if ok {
			got = s[info.From:info.To] + ": " + info.Words
		}
		if got != want || !ok && info != (api.Info{}) {
			t.Errorf("%s: %q, want %q", marked, got, want)
		}
	}
	s := "let id x = x ;; let a = id 1"
	for at, want := range map[int]api.Info{11: {From: 11, To: 12, Words: "'a"}, 24: {From: 24, To: 26, Words: "int -> int"}, 4: {From: 4, To: 6, Words: "'a -> 'a"}, -1: {}, 28: {}, -1 << 63: {}, 1<<63 - 1: {}, 13: {}} {
		if got, ok := Hover(s, at); got != want || ok != (want.Words != "") {
			t.Error(at, got, ok)
		}
	}
}

// P19.3
func TestComplete(t *testing.T) {
	for marked, want := range map[string]string{
		"^": "", "let a = 1 ;; type t = Aa | B ;; ^": "Aa B a", "let a = 1 ;; type t = Aa | B ;; let a = A^": "Aa", "let a = 1 ;; let b = a^": "a", "let a = 1 ;; let ab = a ;; a^b": "a ab", "let a = 1 ;; let ab = a ;; ab^": "ab", "let a = 1^": "", "let a = 1 ^": "a", "let a = 1 ;^; let b = 2": "a", "let a = 1 ;; ^let b = 2": "a", "let a = 1 ;; l^et let = 2": "", "let lex = 1 ;; l^et let = 2": "lex",
		"let f xa xb = x^": "xa xb", "let f xa xb = xa + ^1": "xa xb", "let f xa xb = 1^": "xa xb", "let f xa xb = (1^)": "xa xb", "let f xa xb = (1)^": "", "let f xa xb = ^(1)": "xa", "let f xa xb =^ 1": "xa", "let f xa xb^ = 1": "", "let f xa ^xb = 1": "xa", "let rec f xa = ^f": "f xa", "let rec f xa = f^": "f", "let f xa = f^": "", "let rec f x^a = f": "", "let rec f ^xa = f": "f", "let rec ^f xa = f": "",
		"let f = let g = 1 in ^2": "g", "let f = let g = ^1 in 2": "", "let f = let rec g = ^1 in 2": "g", "let f = match 1 with (a, B c) -> ^d | e -> f": "a c", "let f = match 1 with (a, B c) -> d | e -> ^f": "e", "let f = match 1 with (^a, B c) -> d | e -> f": "", "let f x = fun x -> ^1": "x", "let f xa = (^": "", "let a = 1 ;; let f xa = (^": "a", "let a = 1 ;; let a = ) ;; ^": "",
		"let _a = 1 ;; _^a": "_a", "let tr = 1 ;; t^rue": "tr", "let a = 1 ;; #a^": "a", "let a = 1 ;; 'a^": "a", "let a = 1 ;; 1^": "a", "let ab = 1 ;; (* a^ *)": "ab", "let a = let b = 1 in b ;; ^": "a", "type t = X of int ;; let a = match X^": "X", "type t = X | X ;; ^": "", "let a = 1 ;; let b = 2 ;; let c = 3 ;; b^": "b",
	} {
		at := strings.Index(marked, "^")
		s := strings.Replace(marked, "^", "", 1)
		if got := strings.Join(Complete(s, at), " "); got != want {
			t.Errorf("%s: %q, want %q", marked, got, want)
		}
	}
	for _, at := range []int{-1, 10, 1 << 62, -1 << 63} {
		if got := Complete("let a = 1", at); len(got) != 0 {
			t.Error(at, got)
		}
	}
}

// P19.4
func TestRename(t *testing.T) {
	for _, c := range []struct {
		marked, name, want string
		e                  api.Errno
	}{
		{"let id x = x ;; let a = ^id 1", "f", "let f x = x ;; let a = f 1", 0}, {"let id x = ^x ;; let a = id 1", "y", "let id y = y ;; let a = id 1", 0}, {"let k = fun ^x -> fun y -> x", "y", "", api.ErrClash}, {"let k = fun x -> fun ^y -> x", "x", "", api.ErrClash}, {"let k = fun x -> fun ^y -> y", "x", "let k = fun x -> fun x -> x", 0},
		{"let ^a = 1 ;; let a = a", "b", "let b = 1 ;; let a = b", 0}, {"let a = 1 ;; let ^a = a", "b", "let a = 1 ;; let b = a", 0}, {"let a = 1 ;; let ^b = a ;; let c = b", "a", "let a = 1 ;; let a = a ;; let c = a", 0}, {"let a = 1 ;; let ^b = 2 ;; let c = a", "a", "", api.ErrClash}, {"let ^a = 1", "a", "let a = 1", 0}, {"let ^a = 1 ;; let c = d", "d", "", api.ErrClash},
		{"let ^a = 1 ;; let b = (a, a) ;;\nlet é = 1 ;; let c = a", "long'_name", "let long'_name = 1 ;; let b = (long'_name, long'_name) ;;\nlet é = 1 ;; let c = long'_name", 0}, {"let f = match 1 with (^x, y) -> x", "y", "", api.ErrClash}, {"let a = 1 ;; let b = ^a + ()", "c", "let c = 1 ;; let b = c + ()", 0}, {"let ^f f = f", "g", "let g f = f", 0}, {"let f ^f = f", "g", "let f g = g", 0}, {"let rec ^f x = f", "g", "let rec g x = g", 0}, {"let rec ^f x = f 1 + f 2", "g", "let rec g x = g 1 + g 2", 0},
		{"let ^a = 1", "", "", api.ErrName}, {"let ^a = 1", "A", "", api.ErrName}, {"let ^a = 1", "let", "", api.ErrName}, {"let ^a = 1", "_", "", api.ErrName}, {"let ^a = 1", "a b", "", api.ErrName}, {"let ^a = 1", "b\xff", "", api.ErrName}, {"let ^a = \xff", "A", "", api.ErrUtf}, {"let^ a = 1", "A", "", api.ErrName},
		{"let^ a = 1", "b", "", api.ErrPlace}, {"let a^ = 1", "b", "", api.ErrPlace}, {"let a = ^1", "b", "", api.ErrPlace}, {"let ^a = (", "b", "", api.ErrPlace}, {"type ^t = A", "b", "", api.ErrPlace}, {"^", "b", "", api.ErrPlace}, {"let a = ^b", "c", "", api.ErrUnknown}, {"let a = ^b", "a", "", api.ErrUnknown},
		{"let ^a = 1 ;; let b = 2 ;; let c = 3", "b", "let b = 1 ;; let b = 2 ;; let c = 3", 0}, {"let a = 1x^y", "z", "", api.ErrUnknown}, {"let f ^x = 1x", "z", "let f z = 1z", 0}, {"let ^x = 1;;let b = 1'ax", "y", "let y = 1;;let b = 1'ax", 0}, {"let ^a = 1 ;; " + strings.Repeat(" ", api.MaxText-13) + "a", "bb", "", api.ErrLarge}, {"let ^a = 1 ;; " + strings.Repeat(" ", api.MaxText-13), "b", "let b = 1 ;; " + strings.Repeat(" ", api.MaxText-13), 0},
		{"let ^a = 1", strings.Repeat("n", 256), "", api.ErrClash}, {"let ^b = 1 ;; let a x = x", "a", "let a = 1 ;; let a x = x", 0}, {"let ^b = 1 ;; let a x = b", "a", "let a = 1 ;; let a x = a", 0}, {"let ^b = 1 ;; let rec a x = b", "a", "", api.ErrClash}, {"let f x = let ^g = x in (g, x)", "x", "", api.ErrClash}, {"let f x = let ^g = x in g", "x", "let f x = let x = x in x", 0},
	} {
		at := strings.Index(c.marked, "^")
		s := strings.Replace(c.marked, "^", "", 1)
		edits, e := Rename(s, at, c.name)
		got := ""
		if e == api.OK {
			got, _ = text.Apply(s, edits...)
		}
		if e != c.e || got != c.want || e != api.OK && len(edits) > 0 {
			t.Errorf("%.60s %s: %.60q %d, want %.60q %d", c.marked, c.name, got, e, c.want, c.e)
		}
	}
	edits, _ := Rename("let a = 1 ;;\nlet 😀 ;;(*😀*)let b = a", 4, "xy")
	if want := []api.Edit{{Line: 1, Char: 23, EndLine: 1, EndChar: 24, Text: "xy"}, {Char: 4, EndChar: 5, Text: "xy"}}; !slices.Equal(edits, want) {
		t.Error(edits)
	}
	for _, at := range []int{-1, 99, -1 << 63, 1<<63 - 1} {
		if edits, e := Rename("let a = 1", at, "b"); len(edits) > 0 || e != api.ErrPlace {
			t.Error(at, edits, e)
		}
	}
}

// P19.4: what is renamed tells the same, and can be renamed back.
func TestRenameAny(t *testing.T) {
	r := rand.New(rand.NewSource(1))
	names := []string{"a", "b", "x", "y"}
	name := func() string { return names[r.Intn(4)] }
	var grow func(deep int) string
	grow = func(deep int) string {
		if deep == 0 {
			return []string{name(), name(), "1"}[r.Intn(3)]
		}
		switch r.Intn(5) {
		case 0:
			return "fun " + name() + " -> " + grow(deep-1)
		case 1:
			return "let " + []string{"", "rec "}[r.Intn(2)] + name() + " = " + grow(deep-1) + " in " + grow(deep-1)
		case 2:
			return "match " + grow(0) + " with (" + name() + ", " + name() + ") -> " + grow(deep-1)
		}
		return "(" + grow(deep-1) + ", " + grow(deep-1) + ")"
	}
	done, refused := 0, 0
	for range 4000 {
		s := ""
		for range 1 + r.Intn(4) {
			s += "let " + []string{"", "rec "}[r.Intn(2)] + name() + " = " + grow(r.Intn(4)) + " ;; "
		}
		uses := Resolve(s)
		u := uses[r.Intn(len(uses))]
		edits, e := Rename(s, u.From, name())
		if e == api.ErrClash {
			refused++
		}
		if e != api.OK {
			continue
		}
		done++
		next, _ := text.Apply(s, edits...)
		if a, b := module.Analyze(s), module.Analyze(next); !slices.EqualFunc(a, b, agree) || !slices.Equal(rows(uses), rows(Resolve(next))) {
			t.Fatal(s, next)
		}
		if back, e := Rename(next, u.From, s[u.From:u.To]); e != api.OK {
			t.Fatal(s, next, e)
		} else if first, _ := text.Apply(next, back...); first != s {
			t.Fatal(s, next, first)
		}
	}
	if done < 500 || refused < 100 {
		t.Error(done, refused)
	}
}

// P19.5
func TestWords(t *testing.T) {
	for i, want := range []string{"", "syntax", "too deep", "too many nodes", "unbound name", "types don't agree", "endless type", "too large", "not declared", "twice", ""} {
		if Words(i) != want {
			t.Error(i, Words(i))
		}
	}
	if Words(-1) != "" || Words(1<<62) != "" {
		t.Error("words")
	}
}
