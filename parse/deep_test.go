package parse

import (
	"math/rand"
	"strconv"
	"strings"
	"testing"

	"parlance/api"
	"parlance/lex"
)

// deepRules: the grammar with an expression, a pattern and a type of each depth; one that is too deep is the word DEEP, which no token is.
func deepRules() map[string][][]string {
	plain := rules()
	out := map[string][][]string{"Names": plain["Names"], "Ticks": plain["Ticks"]}
	deeper := map[string]bool{"Expr": true, "Pat": true, "Type": true}
	at := func(part string, depth int) string {
		if deeper[part] && depth > api.MaxDeep {
			return "DEEP"
		}
		if plain[part] == nil || part == "Names" || part == "Ticks" {
			return part
		}
		return part + strconv.Itoa(depth)
	}
	for name, choices := range plain {
		if name == "Names" || name == "Ticks" {
			continue
		}
		for depth := range api.MaxDeep + 2 {
			key := name + strconv.Itoa(depth)
			for _, choice := range choices {
				var parts []string
				for _, part := range choice {
					inner := depth
					// what an expression, pattern or bracket holds is one deeper; lists of parts keep their depth
					if (name == "Expr" && (deeper[part] || part == "Arms")) || (name == "Atom" || name == "Patom" || name == "Tatom" || name == "Named") && (deeper[part] || part == "Exprs" || part == "Pats" || part == "Types") || name == "Type" && part == "Type" {
						inner++
					}
					parts = append(parts, at(part, inner))
				}
				out[key] = append(out[key], parts)
			}
		}
	}
	out["Decl"] = out["Decl0"]
	return out
}

// P10.1: the first fault of what is about as deep as can be.
func TestDeepGrammar(t *testing.T) {
	r := rand.New(rand.NewSource(3))
	all := deepRules()
	vocabulary := strings.Fields("let rec in fun if then else match with true -> ( ( ( ) ) , | = + _ NAME NAME CTOR INT # of * ;;")
	typeWords := strings.Fields("( ( ) , -> -> * NAME NAME TICK | of CTOR #")
	spelt := map[string]string{"NAME": "x", "CTOR": "C", "INT": "7", "TICK": "'a"}
	kinds := map[int]int{}
	for range 200 {
		var words []string
		from := vocabulary
		switch r.Intn(4) {
		case 0:
			words = strings.Fields("type NAME = CTOR of")
			from = typeWords
		case 1:
			words = strings.Fields("let NAME = match NAME with")
		default:
			words = strings.Fields("let NAME =")
		}
		for range 60 + r.Intn(6) {
			words = append(words, "(")
		}
		for range r.Intn(9) {
			// mostly words that can go on
			for range 8 {
				next := append(words[:len(words):len(words)], from[r.Intn(len(from))])
				if w, _ := firstWrongDeep(all, next); w < 0 || w == len(next) || r.Intn(12) == 0 {
					words = next
					break
				}
			}
		}
		var s strings.Builder
		for _, w := range words {
			if spelt[w] != "" {
				w = spelt[w]
			}
			s.WriteString(w + " ")
		}
		text := s.String()
		want, deep := firstWrongDeep(all, words)
		code := api.FaultSyntax
		if deep {
			code = api.FaultDeep
		}
		kinds[code]++
		expected := api.Fault{Code: code, From: len(text), To: len(text)}
		if want < 0 {
			expected = api.Fault{}
		} else if tokens := lex.Lex(text); want < len(tokens) {
			expected.From, expected.To = tokens[want].From, tokens[want].To
		}
		if _, f := One(text); f != expected {
			t.Fatalf("%s: %v, want %v", text, f, expected)
		}
	}
	if kinds[api.FaultDeep] < 10 || kinds[api.FaultSyntax] < 10 {
		t.Error(kinds)
	}
}
