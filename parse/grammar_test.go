package parse

import (
	"math/rand"
	"slices"
	"strings"
	"testing"

	"parlance/api"
	"parlance/lex"
)

// grammar: the document's, with words in lower case and quotes left out; great letters first: tokens' kinds and rules.
const grammar = `
Decl: let NAME Names = Expr | let rec NAME Names = Expr | type Ticks NAME = Cases | type Ticks NAME = BAR Cases
Names: | NAME Names
Ticks: | TICK Ticks
Cases: Case | Case BAR Cases
Case: CTOR | CTOR of Type
Expr: fun NAME Names -> Expr | let NAME Names = Expr in Expr | let rec NAME Names = Expr in Expr | if Expr then Expr else Expr | match Expr with Arms | match Expr with BAR Arms | Cmp
Arms: Arm | Arm BAR Arms
Arm: Pat -> Expr
Cmp: Sum | Sum = Sum | Sum < Sum
Sum: Prod | Sum + Prod | Sum - Prod
Prod: App | Prod * App
App: Atom | App Atom
Atom: NAME | CTOR | INT | true | false | ( ) | ( Exprs )
Exprs: Expr | Expr , Exprs
Pat: CTOR Patom | Patom
Patom: CTOR | _ | NAME | INT | true | false | ( ) | ( Pats )
Pats: Pat | Pat , Pats
Type: Pair | Pair -> Type
Pair: Named | Named * Pair
Named: Tatom Names | ( Type , Types ) NAME Names
Types: Type | Type , Types
Tatom: TICK | NAME | ( Type )
`

func rules() map[string][][]string {
	out := map[string][][]string{}
	for _, line := range strings.Split(strings.TrimSpace(grammar), "\n") {
		name, right, _ := strings.Cut(line, ":")
		for _, one := range strings.Split(right, " | ") {
			out[name] = append(out[name], strings.Fields(one))
		}
	}
	return out
}

type item struct {
	rule, choice, dot, from int
	name                    string
}

// firstWrong: the first token at which a row of words can't go on; len(words): only the end is wrong; -1: none.
func firstWrong(all map[string][][]string, words []string) int {
	at, _ := firstWrongDeep(all, words)
	return at
}

// firstWrongDeep: that (Earley's way), and whether what is too deep might have begun there.
func firstWrongDeep(all map[string][][]string, words []string) (int, bool) {
	sets := []map[item]bool{{}}
	for c := range all["Decl"] {
		sets[0][item{choice: c, name: "Decl"}] = true
	}
	for at := 0; ; at++ {
		set := sets[at]
		work := make([]item, 0, len(set))
		for x := range set {
			work = append(work, x)
		}
		push := func(x item) {
			if !set[x] {
				set[x] = true
				work = append(work, x)
			}
		}
		empty := map[string]bool{"Names": true, "Ticks": true}
		done, deep := false, false
		next := map[item]bool{}
		for len(work) > 0 {
			x := work[len(work)-1]
			work = work[:len(work)-1]
			right := all[x.name][x.choice]
			if x.dot == len(right) {
				done = done || x.name == "Decl"
				for y := range sets[x.from] {
					if r := all[y.name][y.choice]; y.dot < len(r) && r[y.dot] == x.name {
						y.dot++
						push(y)
					}
				}
				continue
			}
			want := right[x.dot]
			if choices, ok := all[want]; ok {
				for c := range choices {
					push(item{choice: c, name: want, from: at})
				}
				if empty[want] {
					y := x
					y.dot++
					push(y)
				}
				continue
			}
			if want == "BAR" {
				want = "|"
			}
			deep = deep || want == "DEEP"
			if at < len(words) && words[at] == want {
				x.dot++
				next[x] = true
			}
		}
		if at == len(words) {
			if done {
				return -1, false
			}
			return at, deep
		}
		if len(next) == 0 {
			return at, deep
		}
		sets = append(sets, next)
	}
}

// P10.1 against the grammar: the first fault is where it tells, and without one there are nodes.
func TestGrammar(t *testing.T) {
	r := rand.New(rand.NewSource(1))
	all := rules()
	vocabulary := strings.Fields("let rec in fun if then else match with type of true false -> :: ;; ( ) , | = < + - * _ NAME NAME NAME CTOR CTOR INT TICK # BIG")
	spelt := map[string]string{"NAME": "x", "CTOR": "C", "INT": "7", "TICK": "'a", "BIG": "1073741824"}
	var grow func(name string, deep int) []string
	grow = func(name string, deep int) []string {
		choices := all[name]
		if choices == nil {
			if name == "BAR" {
				name = "|"
			}
			return []string{name}
		}
		c := choices[r.Intn(len(choices))]
		if deep > 7 {
			c = choices[min(1, len(choices)-1)]
			for _, x := range choices {
				if len(x) < len(c) && !(name == "Expr") {
					c = x
				}
			}
			if name == "Expr" {
				c = []string{"NAME"}
			}
			if name == "Cmp" || name == "Sum" || name == "Prod" || name == "App" {
				c = choices[0]
			}
		}
		var out []string
		for _, part := range c {
			out = append(out, grow(part, deep+1)...)
		}
		return out
	}
	right := 0
	for range 4000 {
		words := grow("Decl", 0)
		if len(words) > 60 {
			continue
		}
		for range r.Intn(3) {
			i := r.Intn(len(words))
			switch r.Intn(4) {
			case 0:
				words = slices.Delete(words, i, i+1)
			case 1:
				words = words[:i]
			case 2:
				words[i] = vocabulary[r.Intn(len(vocabulary))]
			case 3:
				words = slices.Insert(words, i, vocabulary[r.Intn(len(vocabulary))])
			}
			if len(words) == 0 {
				break
			}
		}
		var s strings.Builder
		for _, w := range words {
			if spelt[w] != "" {
				w = spelt[w]
			}
			s.WriteString(w + " ")
		}
		text := s.String()
		tokens := lex.Lex(text)
		want := firstWrong(all, words)
		nodes, f := One(text)
		switch {
		case want < 0:
			right++
			if f.Code != 0 || len(nodes) == 0 {
				t.Fatalf("%s: %v", text, f)
			}
			checkShow(t, text, nodes)
		case want == len(words):
			if f != (api.Fault{Code: api.FaultSyntax, From: len(text), To: len(text)}) || len(nodes) > 0 {
				t.Fatalf("%s: %v, want the end", text, f)
			}
		default:
			if f != (api.Fault{Code: api.FaultSyntax, From: tokens[want].From, To: tokens[want].To}) || len(nodes) > 0 {
				t.Fatalf("%s: %v, want token %d", text, f, want)
			}
		}
	}
	if right < 500 {
		t.Error(right)
	}
}

// checkShow: nodes that were read can be shown, and are read again.
func checkShow(t *testing.T, text string, nodes []api.Node) {
	t.Helper()
	shown, e := Show(nodes)
	back, f := One(shown)
	if e != api.OK || f.Code != 0 || !slices.EqualFunc(back, nodes, alike) {
		t.Fatalf("%s: shown %q %d", text, shown, e)
	}
}

// P10.3: whatever is as deep as can be has a text.
func TestShowDeep(t *testing.T) {
	r := rand.New(rand.NewSource(2))
	// each form has, for a part that is one deeper, a text; loose: the part may stand without brackets of its own
	forms := []string{"fun x -> %", "fun x y -> %", "let x = % in 1", "let x y = 2 in %", "let rec x y = % in x", "if % then 1 else 2", "if 1 then % else 2", "if 1 then 2 else %", "match % with x -> 1", "match 1 with | A -> % | B -> 2", "match 1 with A -> 2 | B x -> %", "(%)", "f (%)", "(%) 1", "1 + (%)", "(%) * 2", "(1, %)", "(%, 2)", "3 = (%)", "(%) < 1 - 2"}
	ok := 0
	for range 3000 {
		text := "%"
		for range 55 + r.Intn(10) {
			text = strings.Replace(text, "%", forms[r.Intn(len(forms))], 1)
		}
		text = "let f x = " + strings.Replace(text, "%", "(1, 2)", 1)
		if nodes, f := One(text); f.Code == 0 {
			ok++
			checkShow(t, text, nodes)
		}
	}
	if ok < 200 {
		t.Error(ok)
	}
	types := []string{"% -> int", "int -> %", "(%) -> int", "% * int", "(%) list", "(int, %) t", "(%, 'a) t u", "int * (%)", "(%) * 'a -> int"}
	patterns := []string{"(%)", "C (%)", "(1, %)", "(%, _)", "C (D (%))", "C (%, D)"}
	ok = 0
	for range 3000 {
		typ, pattern := "%", "%"
		for range 55 + r.Intn(15) {
			typ = strings.Replace(typ, "%", types[r.Intn(len(types))], 1)
			pattern = strings.Replace(pattern, "%", patterns[r.Intn(len(patterns))], 1)
		}
		for _, text := range []string{"type 'a u = A of " + strings.Replace(typ, "%", "'a", 1), "let f = match 1 with " + strings.Replace(pattern, "%", "x", 1) + " -> 1"} {
			if nodes, f := One(text); f.Code == 0 {
				ok++
				checkShow(t, text, nodes)
			}
		}
	}
	if ok < 200 {
		t.Error(ok)
	}
}
