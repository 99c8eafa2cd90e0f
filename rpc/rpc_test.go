package rpc

import (
	"strings"
	"testing"

	"parlance/api"
	"parlance/build"
	"parlance/json"
)

func text(s string) api.Value { return build.Text(s) }
func number(n int) api.Value  { return build.Number(n) }

func value(t *testing.T, s string) api.Value {
	t.Helper()
	v, e := json.Parse([]byte(s))
	if e != api.OK {
		t.Fatalf("%s: %d", s, e)
	}
	return v
}

func printed(v api.Value) string {
	b, _ := json.Print(v)
	return string(b)
}

func call(method, params string) string {
	return `{"jsonrpc":"2.0","id":7,"method":"` + method + `","params":` + params + `}`
}

func requests() map[string]api.Request {
	id := number(7)
	return map[string]api.Request{
		call("open", `{"uri":"a","version":3,"text":"x\ny"}`): {Do: api.DoOpen, Id: id, URI: "a", Version: 3, Text: "x\ny"},
		call("change", `{"uri":"a","version":1073741823,"edits":[{"line":1,"char":2,"endLine":3,"endChar":4,"text":"t"},{"line":0,"char":0,"endLine":0,"endChar":0,"text":""}]}`): {Do: api.DoChange, Id: id, URI: "a", Version: 1<<30 - 1, Edits: []api.Edit{{Line: 1, Char: 2, EndLine: 3, EndChar: 4, Text: "t"}, {}}},
		call("change", `{"uri":"a","version":0,"edits":[]}`):         {Do: api.DoChange, Id: id, URI: "a"},
		call("close", `{"uri":"b"}`):                                 {Do: api.DoClose, Id: id, URI: "b"},
		call("hover", `{"uri":"b","line":0,"char":3}`):               {Do: api.DoHover, Id: id, URI: "b", Char: 3},
		call("complete", `{"uri":"b","line":4,"char":3}`):            {Do: api.DoComplete, Id: id, URI: "b", Line: 4, Char: 3},
		call("rename", `{"uri":"b","line":4,"char":3,"name":""}`):    {Do: api.DoRename, Id: id, URI: "b", Line: 4, Char: 3},
		call("rename", `{"uri":"b","line":4,"char":3,"name":"new"}`): {Do: api.DoRename, Id: id, URI: "b", Line: 4, Char: 3, Name: "new"},
		call("diagnostics", `{"uri":"b"}`):                           {Do: api.DoDiagnose, Id: id, URI: "b"},
		call("exports", `{"uri":"b"}`):                               {Do: api.DoExports, Id: id, URI: "b"},
		call("cancel", `{"id":"x"}`):                                 {Do: api.DoCancel, Id: id, Other: text("x")},
		call("cancel", `{"id":-0}`):                                  {Do: api.DoCancel, Id: id, Other: api.Value{Kind: api.VNumber, Text: "-0"}},
		call("shutdown", `{}`):                                       {Do: api.DoShutdown, Id: id},
		`{"jsonrpc":"2.0","method":"shutdown","params":{}}`:          {Do: api.DoShutdown},
		`{"jsonrpc":"2.0","id":"","method":"shutdown","params":{}}`:  {Do: api.DoShutdown, Id: text("")},
	}
}

// P6.1, P6.2: ordinary requests, both ways.
func TestRequests(t *testing.T) {
	for s, q := range requests() {
		if got, code := Read(value(t, s)); code != 0 || !same(got, q) {
			t.Errorf("%s: %d %v", s, code, got)
		}
		if v, e := Write(q); e != api.OK || printed(v) != s {
			t.Errorf("%s: %d %s", s, e, printed(v))
		}
	}
}

// P6.1: what is passed over.
func TestReadLoose(t *testing.T) {
	for _, s := range []string{
		`{"params":{"x":1,"line":"a","uri":"a","line":0,"char":3},"method":"close","id":[],"id":7,"y":null,"method":"hover","jsonrpc":"2.0"}`,
	} {
		if q, code := Read(value(t, s)); code != 0 || !same(q, api.Request{Do: api.DoHover, Id: number(7), URI: "a", Char: 3}) {
			t.Error(q, code)
		}
	}
	if q, code := Read(value(t, `{"jsonrpc":"2.0","method":"shutdown"}`)); code != 0 || !same(q, api.Request{Do: api.DoShutdown}) {
		t.Error(q, code)
	}
	long := strings.Repeat("u", 64)
	if q, code := Read(value(t, call("close", `{"uri":"`+long+`"}`))); code != 0 || q.URI != long {
		t.Error(q, code)
	}
	odd := api.Value{Kind: api.VString, Text: "\xff", Names: []string{"q"}}
	v := value(t, call("cancel", `{"id":1}`))
	v.Items[1] = odd
	v.Items[3].Items[0] = odd
	if q, code := Read(v); code != 0 || !same(q, api.Request{Do: api.DoCancel, Id: odd, Other: odd}) {
		t.Error(q, code)
	} else if w, e := Write(q); e != api.OK || !json.Same(w, v) {
		t.Error(w, e)
	}
}

// P6.1: wrong requests, in the order of the codes.
func TestReadCodes(t *testing.T) {
	for s, want := range map[string]int{
		`[]`: api.CodeRequest, `null`: api.CodeRequest, `"a"`: api.CodeRequest, `{}`: api.CodeRequest,
		`{"jsonrpc":"2.0","id":null,"method":"shutdown"}`: api.CodeRequest, `{"jsonrpc":"2.0","id":1.5,"method":"shutdown"}`: api.CodeRequest, `{"jsonrpc":"2.0","id":1e2,"method":"none"}`: api.CodeRequest, `{"jsonrpc":"2.0","id":[7],"method":"shutdown"}`: api.CodeRequest,
	} {
		if q, code := Read(value(t, s)); code != want || !same(q, api.Request{}) {
			t.Error(s, q, code)
		}
	}
	for s, want := range map[string]int{
		`{"id":7}`: api.CodeRequest, `{"jsonrpc":2.0,"id":7,"method":"shutdown"}`: api.CodeRequest, `{"jsonrpc":"2.00","id":7,"method":"shutdown"}`: api.CodeRequest, `{"jsonrpc":"2.0","id":7}`: api.CodeRequest, `{"jsonrpc":"2.0","id":7,"method":1}`: api.CodeRequest,
		`{"jsonrpc":"2.0","jsonrpc":"1.0","id":7,"method":"shutdown"}`: api.CodeRequest, call("shutdown", "[]"): api.CodeRequest, call("shutdown", "null"): api.CodeRequest, call("none", "[]"): api.CodeRequest,
		call("none", "{}"): api.CodeMethod, call("", "{}"): api.CodeMethod, call("Open", "{}"): api.CodeMethod, call("open ", "{}"): api.CodeMethod,
		call("hover", `{"uri":"a","line":0,"char":-1}`): api.CodeParams, call("hover", `{"uri":"a","line":1073741824,"char":0}`): api.CodeParams, call("hover", `{"uri":"a","line":0}`): api.CodeParams, call("hover", `{"uri":"a","char":0}`): api.CodeParams, call("hover", `{"line":0,"char":0}`): api.CodeParams, call("complete", `{"uri":"a","line":"0","char":0}`): api.CodeParams, call("hover", `{"uri":"a","line":0.0,"char":0}`): api.CodeParams,
		call("close", `{"uri":""}`): api.CodeParams, call("close", `{"uri":1}`): api.CodeParams, call("close", `{"uri":"`+strings.Repeat("u", 65)+`"}`): api.CodeParams, call("diagnostics", `{}`): api.CodeParams, call("exports", `{"uri":null}`): api.CodeParams, `{"jsonrpc":"2.0","id":7,"method":"close"}`: api.CodeParams,
		call("open", `{"uri":"a","version":0}`): api.CodeParams, call("open", `{"uri":"a","text":""}`): api.CodeParams, call("open", `{"version":0,"text":""}`): api.CodeParams, call("open", `{"uri":"a","version":0,"text":0}`): api.CodeParams, call("open", `{"uri":"a","version":-1,"text":""}`): api.CodeParams,
		call("change", `{"uri":"a","version":0}`): api.CodeParams, call("change", `{"uri":"a","version":0,"edits":{}}`): api.CodeParams, call("change", `{"uri":"a","version":0,"edits":[1]}`): api.CodeParams, call("change", `{"uri":"a","version":0,"edits":[{"line":1,"char":2,"endLine":3,"endChar":4}]}`): api.CodeParams, call("change", `{"uri":"a","version":0,"edits":[{"line":1,"char":2,"endLine":3,"endChar":-4,"text":""}]}`): api.CodeParams, call("change", `{"uri":"a","version":0,"edits":[{"char":2,"endLine":3,"endChar":4,"text":""}]}`): api.CodeParams,
		call("change", `{"uri":"a","version":0,"edits":[{"line":1,"endLine":3,"endChar":4,"text":""}]}`): api.CodeParams, call("change", `{"uri":"a","version":0,"edits":[{"line":1,"char":1,"endChar":4,"text":""}]}`): api.CodeParams, call("change", `{"version":0,"edits":[]}`): api.CodeParams, call("change", `{"uri":"a","edits":[]}`): api.CodeParams,
		call("rename", `{"uri":"a","line":0,"char":0}`): api.CodeParams, call("rename", `{"uri":"a","line":0,"char":0,"name":null}`): api.CodeParams, call("rename", `{"line":0,"char":0,"name":"x"}`): api.CodeParams, call("rename", `{"uri":"a","char":0,"name":"x"}`): api.CodeParams,
		call("cancel", `{}`): api.CodeParams, call("cancel", `{"id":null}`): api.CodeParams, call("cancel", `{"id":1.5}`): api.CodeParams, call("cancel", `{"id":{}}`): api.CodeParams,
	} {
		if q, code := Read(value(t, s)); code != want || !same(q, api.Request{Id: number(7)}) {
			t.Error(s, q, code)
		}
	}
}

// P6.2: requests that no value has.
func TestWriteErrors(t *testing.T) {
	id := number(7)
	for i, q := range []api.Request{
		{}, {Do: -1}, {Do: 11}, {Do: api.DoShutdown, Id: api.Value{Kind: api.VTrue}}, {Do: api.DoShutdown, Id: api.Value{Text: "x"}}, {Do: api.DoShutdown, Id: api.Value{Kind: api.VNumber, Text: "1.5"}}, {Do: api.DoShutdown, URI: "a"}, {Do: api.DoShutdown, Other: id},
		{Do: api.DoClose}, {Do: api.DoClose, URI: strings.Repeat("u", 65)}, {Do: api.DoClose, URI: "a", Version: 1}, {Do: api.DoClose, URI: "a", Text: "x"}, {Do: api.DoClose, URI: "a", Edits: make([]api.Edit, 1)}, {Do: api.DoClose, URI: "a", Line: 1}, {Do: api.DoClose, URI: "a", Char: 1}, {Do: api.DoClose, URI: "a", Name: "x"}, {Do: api.DoClose, URI: "a", Other: id},
		{Do: api.DoOpen, URI: "a", Version: -1}, {Do: api.DoOpen, URI: "a", Version: api.MaxInt}, {Do: api.DoOpen, URI: "a", Version: 1 << 62}, {Do: api.DoHover, URI: "a", Line: -1}, {Do: api.DoHover, URI: "a", Char: 1 << 30}, {Do: api.DoHover, URI: "a", Name: "x"},
		{Do: api.DoChange, URI: "a", Edits: []api.Edit{{EndChar: -1}}}, {Do: api.DoChange, URI: "a", Text: "x"}, {Do: api.DoCancel}, {Do: api.DoCancel, Other: api.Value{Kind: api.VArray}}, {Do: api.DoCancel, Other: id, URI: "a"},
	} {
		if v, e := Write(q); e != api.ErrRequest || !json.Same(v, api.Value{}) {
			t.Error(i, v, e)
		}
	}
}

// P6.3
func TestAnswers(t *testing.T) {
	if s := printed(Reply(text("a"), value(t, `[1,{"x":null}]`))); s != `{"jsonrpc":"2.0","id":"a","result":[1,{"x":null}]}` {
		t.Error(s)
	}
	if s := printed(Fail(api.Value{}, api.CodeParse)); s != `{"jsonrpc":"2.0","id":null,"error":{"code":-32700,"message":"parse error"}}` {
		t.Error(s)
	}
	for code, want := range map[int]string{-32700: "parse error", -32600: "invalid request", -32601: "method not found", -32602: "invalid params", -32800: "cancelled", -32801: "content modified", -32802: "unknown document", 0: "error", -1: "error", -1 << 63: "error"} {
		if Message(code) != want {
			t.Error(code, Message(code))
		}
		m, _ := json.Get(Fail(number(1), code), "error")
		if n, _ := json.Get(m, "message"); n.Text != want {
			t.Error(code, n)
		}
	}
}

// P6.4
func TestMemory(t *testing.T) {
	id := api.Value{Kind: api.VArray, Items: []api.Value{text("a")}}
	a, b := Reply(id, id), Fail(id, 1)
	id.Items[0].Text = "b"
	a.Items[1].Items[0].Text = "c"
	if printed(a) != `{"jsonrpc":"2.0","id":["c"],"result":["a"]}` || printed(b) != `{"jsonrpc":"2.0","id":["a"],"error":{"code":1,"message":"error"}}` {
		t.Error(printed(a), printed(b))
	}
	odd := api.Value{Kind: api.VString, Items: []api.Value{text("x")}}
	v, _ := Write(api.Request{Do: api.DoCancel, Id: odd, Other: odd})
	q, _ := Read(v)
	odd.Items[0].Text = "y"
	v.Items[1].Items[0].Text = "z"
	if q.Id.Items[0].Text != "x" || q.Other.Items[0].Text != "x" || v.Items[3].Items[0].Items[0].Text != "x" {
		t.Error(q, v)
	}
}
