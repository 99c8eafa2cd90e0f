package relex

import (
	"math/rand"
	"slices"
	"testing"

	"parlance/api"
	"parlance/lex"
)

// front and end, counted as the document says it.
func count(s string, from, to int, more string) ([]api.Token, int, int) {
	old, now := lex.Lex(s), lex.Lex(s[:from]+more+s[to:])
	front := 0
	for _, t := range old {
		if t.To < from-1 {
			front++
		}
	}
	shift := len(more) - (to - from)
	for k := len(old) - front; k > 0; k-- {
		if k > len(now)-front {
			continue
		}
		ok := true
		for i := range k {
			a, b := old[len(old)-k+i], now[len(now)-k+i]
			ok = ok && a.From >= to && a.Kind == b.Kind && a.From+shift == b.From && a.To+shift == b.To
		}
		if ok {
			return now, front, k
		}
	}
	return now, front, 0
}

// P9.1
func TestRelex(t *testing.T) {
	for i, c := range []struct {
		s          string
		from, to   int
		more       string
		front, end int
	}{
		{"let x = 1", 5, 5, "y", 1, 2},
		{"let x = 1", 4, 4, "", 0, 3},
		{"let x = 1", 9, 9, "", 3, 0},
		{"let x = 1", 0, 9, "a b", 0, 0},
		{"a b c", 4, 4, "", 1, 1},
		{"a  b", 3, 3, "", 1, 1},
		{"a (* b *) c", 7, 9, "", 1, 0},
		{"a (* b c", 7, 7, "*)", 1, 0},
		{"a : b", 3, 3, "", 1, 1},
		{"x #'a", 3, 4, "(*", 1, 0},
		{"a b (* c *) d e", 2, 3, "(*", 0, 0},
		{"a b (* c *) d e", 2, 3, "(* *)", 0, 2},
		{"a b c *) d e", 2, 3, "(*", 0, 2},
		{"a -\n> b", 2, 3, "- -", 0, 2},
		{"", 0, 0, "x", 0, 0},
	} {
		got, front, end, e := Relex(c.s, lex.Lex(c.s), c.from, c.to, c.more)
		want, _, _ := count(c.s, c.from, c.to, c.more)
		if !slices.Equal(got, want) || front != c.front || end != c.end || e != api.OK {
			t.Errorf("%d: %v %d %d %d", i, got, front, end, e)
		}
	}
}

// P9.1 at many edits.
func TestRelexAny(t *testing.T) {
	r := rand.New(rand.NewSource(1))
	words := []string{"a", "A", "0", "'", "_", " ", "(", "*", ")", "(*", "*)", "-", ">", ":", ";", ";;", "#", "\n", " ", "let", "x'", "é"}
	random := func(n int) string {
		s := ""
		for range r.Intn(n) {
			s += words[r.Intn(len(words))]
		}
		return s
	}
	for range 100000 {
		s, more := random(16), random(4)
		from := r.Intn(len(s) + 1)
		to := from + r.Intn(min(len(s)-from, 4)+1)
		got, front, end, e := Relex(s, lex.Lex(s), from, to, more)
		now, wantFront, wantEnd := count(s, from, to, more)
		if !slices.Equal(got, now) || front != wantFront || end != wantEnd || e != api.OK {
			t.Fatalf("%q %d %d %q: %v %d %d, want %v %d %d", s, from, to, more, got, front, end, now, wantFront, wantEnd)
		}
	}
}

// P9.1: wrong places, and tokens that aren't the text's.
func TestRelexWrong(t *testing.T) {
	for _, c := range [][2]int{{-1, 0}, {2, 1}, {0, 4}, {4, 4}, {-1 << 63, 1<<63 - 1}, {1<<63 - 1, 1<<63 - 1}} {
		if got, front, end, e := Relex("a b", lex.Lex("a b"), c[0], c[1], "x"); len(got) != 0 || front != 0 || end != 0 || e != api.ErrPlace {
			t.Error(c, got, front, end, e)
		}
	}
	r := rand.New(rand.NewSource(2))
	far := []int{-1 << 63, -5, -1, 0, 1, 2, 3, 4, 9, 1<<63 - 1}
	for range 20000 {
		tokens := make([]api.Token, r.Intn(6))
		for i := range tokens {
			tokens[i] = api.Token{Kind: r.Intn(9), From: far[r.Intn(10)], To: far[r.Intn(10)]}
		}
		from := r.Intn(4)
		Relex("a b", tokens, from, from+r.Intn(4-from), "xy z")
		Spans("a b", tokens)
	}
}

// P9.2
func TestSpans(t *testing.T) {
	for s, want := range map[string][][2]int{
		"": nil, ";;": nil, ";; ;;": nil, "a ;; b c": {{0, 1}, {5, 8}}, ";;a;;;;(* ;; *) b c;;": {{2, 3}, {16, 19}}, " let x = 1 ": {{1, 10}}, "a;;#": {{0, 1}, {3, 4}}, "a;;;b": {{0, 1}, {3, 5}},
	} {
		if got := Spans(s, lex.Lex(s)); !slices.Equal(got, want) {
			t.Errorf("%q: %v", s, got)
		}
	}
}

// P9.3
func TestMemory(t *testing.T) {
	s := "let x = 1"
	tokens := lex.Lex(s)
	got, _, _, _ := Relex(s, tokens, 9, 9, "2")
	got[0].To = 99
	if !slices.Equal(tokens, lex.Lex(s)) {
		t.Error(tokens)
	}
}
