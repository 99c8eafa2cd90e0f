package reparse

import (
	"math/rand"
	"reflect"
	"testing"

	"parlance/api"
	"parlance/parse"
)

// P11.1
func TestChanged(t *testing.T) {
	for i, c := range []struct {
		s, t             string
		front, end, rest int
	}{
		{"let a = 1 ;; let b = 2", "let a = 1 ;; ;; let c = 3", 1, 0, 1},
		{"x", "x ;; x", 1, 0, 1}, {"x ;; x", "x", 1, 0, 0}, {"", "", 0, 0, 0}, {"", "x", 0, 0, 1}, {"x", "", 0, 0, 0}, {"x", "x", 1, 0, 0}, {"x;;y;;z", "x ;; q ;; r ;; z ;;", 1, 1, 2},
		{"x;;y;;x;;y", "x;;y;;x;;y;;x;;y", 4, 0, 2}, {"y;;x", "x;;x", 0, 1, 1}, {"a b", "a  b", 0, 0, 1}, {"x (*;;*) y;;z", "z", 0, 1, 0}, {"x ;; (* ", "x ;; (*", 1, 0, 1},
	} {
		if front, end, rest := Changed(c.s, c.t); front != c.front || end != c.end || rest != c.rest {
			t.Error(i, front, end, rest)
		}
	}
}

// P11.2
func TestReparse(t *testing.T) {
	r := rand.New(rand.NewSource(1))
	words := []string{"let a = 1", "let b = (", "type t = A", "let f x = x", ";;", ";;", ";;", " ", "\n", "(* ", "*)", "x"}
	random := func() string {
		s := ""
		for range r.Intn(9) {
			s += words[r.Intn(len(words))]
		}
		return s
	}
	for range 20000 {
		s, u := random(), random()
		front, end, _ := Changed(s, u)
		got, kept := Reparse(s, parse.Parse(s), u)
		if want := parse.Parse(u); !reflect.DeepEqual(got, want) || kept != front+end {
			t.Fatalf("%q %q: %v %d, want %v", s, u, got, kept, want)
		}
	}
}

// P11.2: other declarations than the text's; P11.3.
func TestOthers(t *testing.T) {
	s := "let a = (1, 2) ;; let b = 2"
	for n := range 4 {
		Reparse(s, make([]api.Decl, n), "x ;; "+s)
		Reparse(s, make([]api.Decl, n), s+" ;; x")
	}
	decls := parse.Parse(s)
	got, kept := Reparse(s, decls, s+";;x")
	got[0].Nodes[3].Kids[0] = 99
	got[0].Nodes[0].Name = "q"
	if kept != 2 || !reflect.DeepEqual(decls, parse.Parse(s)) {
		t.Error(kept, decls)
	}
}
