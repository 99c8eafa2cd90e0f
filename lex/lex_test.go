package lex

import (
	"math/rand"
	"strings"
	"testing"

	"parlance/api"
)

// told: a text's tokens as words, each with the letter of its kind ahead.
func told(s string) string {
	var out []string
	for _, t := range Lex(s) {
		out = append(out, "?ncitksE"[t.Kind:t.Kind+1]+Word(s, t))
	}
	return strings.Join(out, " ")
}

// P8.1
func TestLex(t *testing.T) {
	for s, want := range map[string]string{
		"": "", " \t\r\n": "", "let x' = 1": "klet nx' s= i1", "a--b": "na s- s- nb", "(* a (* b *) c *)x": "nx", "#€x": "E#€ nx", "(* a": "E(* a",
		"_ __ _a _' _0 a_b'c9A": "s_ n__ n_a n_' n_0 na_b'c9A", "Ab'c_9 A": "cAb'c_9 cA", "007x 1A": "i007 nx i1 cA",
		"'a 'aB9_ 'a' 'A '": "t'a t'aB9_ t'a E' E' cA E'", "''a": "E' t'a", "'_a": "E' n_a", "'a'b": "t'a t'b", "x'a": "nx'a",
		"-> - > :: : ;; ; ->- ::: ;;;": "s-> s- E> s:: E: s;; E; s-> s- s:: E: s;; E;", ":::: ;;;;": "s:: s:: s;; s;;", "(),|=<+-*": "s( s) s, s| s= s< s+ s- s*",
		"let rec in fun if then else match with type of true false": "klet krec kin kfun kif kthen kelse kmatch kwith ktype kof ktrue kfalse",
		"lets Let let' _let truex":                                  "nlets cLet nlet' n_let ntruex", "a\v\fb": "na E\v\f nb", "a\x00b": "na E\x00 nb", "#:#;;": "E#:# s;;", "#:;;": "E#: s;;", "#'#'a": "E#'# t'a",
		"(**)": "", "(*)": "E(*)", "(*)*)a": "na", "(***)a": "na", "(*(*)*)*)a": "na", "(*(**)": "E(*(**)", "( *)": "s( s* s)", "*)": "s* s)", "a(*": "na E(*", "#(*x*)#": "E# E#", "(* *)) (* (*": "s) E(* (*",
		"(*(": "E(*(", "(**": "E(**", "\xff\xfe a": "E\xff\xfe na", "a(*;;*);;b": "na s;; nb", "é": "Eé", "1'a": "i1 t'a", "{a}": "E{ na E}", "a.b": "na E. nb", ">=": "E> s=", "!<": "E! s<",
	} {
		if got := told(s); got != want {
			t.Errorf("%q: %q, want %q", s, got, want)
		}
	}
}

// P8.3
func TestCover(t *testing.T) {
	r := rand.New(rand.NewSource(1))
	const letters = "aA0'_ (*)-:;>=#\xc3\n"
	for range 100000 {
		b := make([]byte, r.Intn(14))
		for i := range b {
			b[i] = letters[r.Intn(len(letters))]
		}
		s := string(b)
		at := 0
		for _, x := range append(Lex(s), api.Token{From: len(s), To: len(s) + 1}) {
			if x.From < at || x.To <= x.From {
				t.Fatalf("%q %v", s, x)
			}
			if between := s[at:x.From]; len(Lex(between)) > 0 {
				t.Fatalf("%q: %q is in no token", s, between)
			}
			at = x.To
		}
	}
}

// P8.1
func TestWord(t *testing.T) {
	token := func(kind, from, to int) api.Token { return api.Token{Kind: kind, From: from, To: to} }
	for _, c := range [][2]int{{-1, 2}, {2, 1}, {0, 4}, {4, 4}, {-1 << 63, 1<<63 - 1}, {1<<63 - 1, -1 << 63}} {
		if w := Word("let", token(api.TKey, c[0], c[1])); w != "" {
			t.Error(c, w)
		}
	}
	if Word("let", token(0, 0, 3)) != "let" || Word("let", token(0, 1, 2)) != "e" || Word("let", token(0, 3, 3)) != "" {
		t.Error("word")
	}
	if !Is("let", token(api.TKey, 0, 3), "let") || !Is("let", token(api.TSign, 0, 3), "let") || Is("let", token(api.TName, 0, 3), "let") || Is("let", token(api.TKey, 0, 3), "le") || Is("let", token(api.TKey, 0, 2), "let") {
		t.Error("is")
	}
	if Is("let", token(api.TError, 0, 3), "let") || Is("let", token(0, 0, 3), "let") || Is("", token(api.TInt, 0, 0), "") || !Is("", token(api.TKey, 9, 0), "") {
		t.Error("is")
	}
}

// P8.2
func TestKind(t *testing.T) {
	for word, want := range map[string]int{
		"a": api.TName, "_a'": api.TName, "A": api.TCtor, "12": api.TInt, "'a": api.TTick, "let": api.TKey, "->": api.TSign, "_": api.TSign, "(": api.TSign, ";;": api.TSign,
		"": 0, " a": 0, "a ": 0, "a b": 0, "1a": 0, "#": 0, "(*": 0, "(**)": 0, "(* *)a": 0, "'": 0, "'A": 0, "--": 0, ":": 0, "a\xff": 0, "\n": 0, "a'": api.TName, "'a'": 0,
	} {
		if got := Kind(word); got != want {
			t.Errorf("%q %d", word, got)
		}
	}
}
