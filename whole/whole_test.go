// Package whole holds the layers together: the document's examples of the whole, and any arguments at all.
package whole

import (
	"math/rand"
	"strings"
	"testing"

	"parlance/api"
	"parlance/data"
	"parlance/derive"
	"parlance/frame"
	"parlance/index"
	"parlance/infer"
	"parlance/journal"
	"parlance/json"
	"parlance/lex"
	"parlance/module"
	"parlance/parse"
	"parlance/query"
	"parlance/relex"
	"parlance/reparse"
	"parlance/replay"
	"parlance/rpc"
	"parlance/scheme"
	"parlance/server"
	"parlance/text"
	"parlance/types"
	"parlance/unify"
	"parlance/utf"
	"parlance/vfs"
)

// odd makes arguments of all kinds.
type odd struct{ *rand.Rand }

func (r odd) number() int {
	return []int{0, 1, 2, 3, 4, 5, 7, -1, 10, 63, 64, 255, 256, 1 << 30, 1 << 31, 1 << 53, 1<<63 - 1, -1 << 63, -(1 << 31), r.Intn(30)}[r.Intn(20)]
}

func (r odd) small() int { return r.Intn(8) - 1 }

func (r odd) words() string {
	list := []string{"", "a", "x", "f", "A", "B", "1", "'a", "let", "rec", "in", "fun", "->", "=", "(", ")", "(*", "*)", ";;", "match", "with", "|", "type", "of", "int", "list", "\xff", "é", "😀", "\n", " ", "+", "*", ",", "_", "if", "then", "else", "true", "{", "}", "[", "]", "\"", ":", "0 ", "work ", "\r\n", "#"}
	s := ""
	for range r.Intn(9) {
		s += list[r.Intn(len(list))] + []string{"", " "}[r.Intn(2)]
	}
	return s
}

func (r odd) name() string {
	return []string{"a", "x", "t", "int", "A", "B", "", "let", "list", "\xff", strings.Repeat("n", 300)}[r.Intn(11)]
}

func (r odd) typ(deep int) api.Type {
	t := api.Type{Kind: r.Intn(6), Num: []int{0, 0, 0, 1, r.number()}[r.Intn(5)]}
	if t.Kind == api.KCon || r.Intn(9) == 0 {
		t.Name = r.name()
	}
	for deep > 0 && r.Intn(3) > 0 {
		t.Args = append(t.Args, r.typ(deep-1))
	}
	return t
}

func (r odd) value(deep int) api.Value {
	v := api.Value{Kind: r.small(), Text: []string{"", "1", "2.0", "-0", r.words()}[r.Intn(5)]}
	for deep > 0 && r.Intn(3) > 0 {
		v.Items = append(v.Items, r.value(deep-1))
		v.Names = append(v.Names, []string{"jsonrpc", "id", "method", "params", "uri", "edits", "line", ""}[r.Intn(8)])
	}
	return v
}

func (r odd) nodes() []api.Node {
	if nodes, f := parse.One(r.declaration()); f.Code == 0 && r.Intn(2) == 0 {
		return nodes
	}
	var list []api.Node
	for range r.Intn(7) {
		n := api.Node{Kind: r.Intn(30) - 1, From: r.number(), To: r.number(), Num: r.small(), Name: r.name()}
		for range r.Intn(4) {
			n.Kids = append(n.Kids, r.small())
		}
		list = append(list, n)
	}
	return list
}

func (r odd) declaration() string {
	return []string{"let a = x", "let rec f x = f (x, 1)", "type 'a t = A of 'a * int | B", "let a = match x with A y -> y | _ -> A", "let g x = let y = x in (y, B 1)", r.words()}[r.Intn(6)]
}

func (r odd) exports() []api.Export {
	var list []api.Export
	for range r.Intn(3) {
		x := api.Export{Name: r.name(), Type: api.Type{Kind: api.KVar}}
		if r.Intn(3) == 0 {
			x.Type = r.typ(2)
		}
		list = append(list, x)
	}
	return list
}

func (r odd) env() api.Env {
	e := data.Base()
	for range r.Intn(3) {
		nodes, _ := parse.One(r.declaration())
		if next, f := data.Declare(e, nodes); f.Code == 0 {
			e = next
		}
	}
	if r.Intn(4) == 0 {
		e.Families = append(e.Families, api.Family{Name: r.name(), Params: r.number()})
		e.Cases = append(e.Cases, api.Case{Name: r.name(), Of: r.name(), Params: r.number(), Has: r.Intn(2) == 0, Arg: r.typ(2)})
	}
	return e
}

func (r odd) numbers() []int {
	var list []int
	for range r.Intn(5) {
		list = append(list, r.number())
	}
	return list
}

func (r odd) edit() api.Edit {
	return api.Edit{Line: r.number(), Char: r.number(), EndLine: r.number(), EndChar: r.number(), Text: r.words()}
}

func (r odd) request() api.Request {
	return api.Request{Do: r.number(), Id: r.value(1), URI: r.name(), Version: r.number(), Text: r.words(), Edits: []api.Edit{r.edit()}, Line: r.small(), Char: r.small(), Name: r.name(), Other: r.value(1)}
}

func (r odd) event() api.Event {
	e := api.Event{Kind: r.small(), Client: r.small(), Worker: r.small(), Power: r.small(), Keeps: r.numbers(), Data: []byte(r.words())}
	if r.Intn(2) == 0 {
		if v, err := rpc.Write(r.right()); err == api.OK {
			b, _ := json.Print(v)
			e = api.Event{Kind: api.EvBytes, Client: r.Intn(3)}
			e.Data, _ = frame.Encode(b)
		}
	}
	return e
}

func (r odd) right() api.Request {
	q := api.Request{Do: 1 + r.Intn(10), URI: "a"}
	if r.Intn(4) > 0 {
		q.Id = api.Value{Kind: api.VString, Text: r.name()}
	}
	switch q.Do {
	case api.DoOpen:
		q.Version, q.Text = r.Intn(5), r.declaration()+";;"+r.declaration()
	case api.DoChange:
		q.Version, q.Edits = r.Intn(9), []api.Edit{{Text: r.declaration() + ";;"}}
	case api.DoHover, api.DoComplete, api.DoRename:
		q.Char = r.Intn(12)
	case api.DoCancel, api.DoShutdown:
		q.URI = ""
	}
	if q.Do == api.DoRename {
		q.Name = r.name()
	}
	if q.Do == api.DoCancel {
		q.Other = api.Value{Kind: api.VString, Text: r.name()}
	}
	return q
}

// P1
func TestAnyArguments(t *testing.T) {
	r := odd{rand.New(rand.NewSource(1))}
	for range 6000 {
		s, u, n, m := r.words(), r.words(), r.number(), r.number()
		utf.Valid([]byte(s))
		utf.Runes(s)
		utf.Text(r.numbers()...)
		utf.Units(s)
		utf.Join(r.numbers()...)
		utf.Offset(s, n)
		utf.Unit(s, n)
		text.Offset(s, n, m)
		text.Place(s, n)
		text.Apply(s, r.edit())
		text.Between(s, u)
		json.Parse([]byte(s))
		v := r.value(3)
		json.Print(v)
		json.Get(v, "id")
		json.Int(v)
		json.Same(v, r.value(2))
		rpc.Read(v)
		rpc.Write(r.request())
		rpc.Reply(v, v)
		rpc.Fail(v, n)
		tokens := lex.Lex(s)
		lex.Is(s, api.Token{Kind: r.small(), From: n, To: m}, u)
		relex.Relex(s, tokens, n, m, u)
		relex.Relex(s, lex.Lex(u), r.small(), r.small(), u)
		relex.Spans(u, tokens)
		parse.Parse(s)
		nodes := r.nodes()
		parse.Show(nodes)
		reparse.Reparse(s, parse.Parse(u), u)
		reparse.Changed(s, u)
		a, b := r.typ(3), r.typ(3)
		types.Close(a)
		types.Show(a)
		types.Read(s)
		types.Instance(a, b)
		types.Same(a, b)
		names, e := r.exports(), r.env()
		scheme.Encode(names)
		scheme.Decode([]byte(s))
		scheme.Put(names, r.name(), a)
		scheme.Find(names, r.name())
		data.Declare(e, nodes)
		data.Lookup(e, r.name())
		data.Whole(api.Case{Of: r.name(), Params: n, Has: r.Intn(2) == 0, Arg: a})
		infer.Infer(e, names, nodes)
		infer.Scheme(e, names, nodes)
		list := make([]api.Type, len(nodes))
		for i := range list {
			list[i] = r.typ(2)
		}
		derive.Check(e, names, nodes, list)
		module.Before(s, n)
		doc := r.declaration() + ";;" + r.declaration() + ";;" + s
		module.Faults(doc)
		query.Hover(doc, n)
		query.Complete(doc, n)
		query.Rename(doc, n, r.name())
		query.Words(n)
		server.Answer(r.request(), n, doc)
		replay.Parse(s)
		replay.Show(r.event())
		replay.Run(r.small(), s+"\n"+u)
	}
}

// P1: objects.
func TestAnyCalls(t *testing.T) {
	r := odd{rand.New(rand.NewSource(2))}
	for range 1500 {
		f := vfs.New(r.small())
		file := func() string { return []string{"log", "base", "next", "a", "A", ""}[r.Intn(6)] }
		for range r.Intn(6) {
			f.Append(file(), []byte(r.words()))
			f.Truncate(file(), r.number())
			f.Rename(file(), file())
			f.Sync(file())
			f.Remove(file())
			f = f.Crash(r.numbers(), r.small())
		}
		if j, e := journal.Open(f); e == api.OK {
			j.Append([]byte(r.words()))
			j.Lay([]byte(r.words()), nil)
			j.Sync()
		}
		if x, e := index.Open(f); e == api.OK {
			x.Publish(api.Entry{URI: r.name(), Version: r.number(), Exports: r.exports()})
			x.Remove(r.name())
			x.Compact()
		}
		d := frame.New()
		d.Feed([]byte(r.words()))
		s := unify.New()
		for range r.Intn(20) {
			a, b := r.small(), r.small()
			s.Var()
			s.Con(r.name(), a)
			s.Pair(a, b)
			s.Arrow(b, r.number())
			s.Unify(a, b)
			s.Unify(r.number(), b)
			s.Alike(a, b)
			s.Copy(a, b)
			s.Types(a, b)
		}
		sv, e := server.New(vfs.New(r.Intn(30)-1), 1+r.Intn(3))
		if e != api.OK {
			t.Fatal(e)
		}
		for range r.Intn(60) {
			sv.Do(r.event())
			sv.Do(api.Event{Kind: api.EvDispatch, Client: r.Intn(3)})
			sv.Do(api.Event{Kind: api.EvWork, Worker: r.Intn(3)})
		}
		sv.Waiting()
		sv.Entries()
		sv.Closed()
		for _, p := range sv.Sent() {
			if v, e := json.Parse(p.Body); e != api.OK || v.Kind != api.VObject {
				t.Fatalf("%q", p.Body)
			}
		}
	}
}

// P2: the same script tells the same.
func TestSame(t *testing.T) {
	r := odd{rand.New(rand.NewSource(3))}
	for range 200 {
		var list []api.Event
		for range 80 {
			list = append(list, r.event(), api.Event{Kind: api.EvDispatch, Client: r.Intn(3)}, api.Event{Kind: api.EvWork, Worker: r.Intn(2)})
		}
		told := func() string {
			sv, _ := server.New(vfs.New(20), 2)
			out := ""
			for _, e := range list {
				out += sv.Do(e).Error() + "\n"
			}
			for _, p := range sv.Sent() {
				out += replay.Tell(p) + "\n"
			}
			return out
		}
		if told() != told() {
			t.Fatal(list)
		}
	}
}

// The document's examples 1 to 3 and 9.
func TestExamples(t *testing.T) {
	for s, want := range map[string]string{"let id x = x": "'a -> 'a", "let p = let f = fun x -> x in (f 1, f true)": "int * bool", "let r = fun f -> (f 1, f true)": "types don't agree f true", "let w = fun x -> x x": "endless type x x", "let w = fun x -> x x ;; let v = w": "endless type x x; unbound name w", "let a = ( ;; let b = 1": "syntax ; int"} {
		var out []string
		for _, x := range module.Analyze(s) {
			w, _ := types.Show(x.Type)
			if f := x.Fault; f.Code != 0 {
				w = query.Words(f.Code) + " " + s[x.From+f.From:x.From+f.To]
			}
			out = append(out, w)
		}
		if got := strings.Join(out, "; "); got != want {
			t.Errorf("%s: %s, want %s", s, got, want)
		}
	}
}
