package server

import (
	"fmt"
	"math/rand"
	"reflect"
	"slices"
	"strings"
	"testing"

	"parlance/api"
	"parlance/frame"
	"parlance/json"
	"parlance/rpc"
	"parlance/vfs"
)

// rig is a server under test; seen: how many messages were looked at.
type rig struct {
	*testing.T
	*Server
	seen int
}

func begin(t *testing.T, workers, power int) *rig {
	t.Helper()
	s, e := New(vfs.New(power), workers)
	if e != api.OK {
		t.Fatal(e)
	}
	return &rig{t, s, 0}
}

func (r *rig) do(want api.Errno, list ...api.Event) {
	r.Helper()
	for _, e := range list {
		if got := r.Do(e); got != want {
			r.Errorf("%v: %d, want %d", e, got, want)
		}
	}
}

func bytes(client int, body string) api.Event {
	b, _ := frame.Encode([]byte(body))
	return api.Event{Kind: api.EvBytes, Client: client, Data: b}
}

func dispatch(client int) api.Event { return api.Event{Kind: api.EvDispatch, Client: client} }
func work(worker int) api.Event     { return api.Event{Kind: api.EvWork, Worker: worker} }
func hang(client int) api.Event     { return api.Event{Kind: api.EvHang, Client: client} }
func crash(power int, keeps ...int) api.Event {
	return api.Event{Kind: api.EvCrash, Power: power, Keeps: keeps}
}

// tell: a message comes and is taken.
func (r *rig) tell(client int, body string) {
	r.Helper()
	r.do(api.OK, bytes(client, body), dispatch(client))
}

// call: a request comes and is taken; id "": none.
func (r *rig) call(client int, id, method, params string) {
	r.Helper()
	if id != "" {
		id = `"id":` + id + `,`
	}
	r.tell(client, `{"jsonrpc":"2.0",`+id+`"method":"`+method+`","params":{`+params+`}}`)
}

func open(uri string, version int, text string) string {
	return fmt.Sprintf(`"uri":"%s","version":%d,"text":"%s"`, uri, version, text)
}

func change(uri string, version int, text string) string {
	return fmt.Sprintf(`"uri":"%s","version":%d,"edits":[{"line":0,"char":0,"endLine":0,"endChar":0,"text":"%s"}]`, uri, version, text)
}

func at(uri string, char int) string { return fmt.Sprintf(`"uri":"%s","line":0,"char":%d`, uri, char) }

// sent: what was sent since the last look; results and errors in short.
func (r *rig) sent(want ...string) {
	r.Helper()
	var got []string
	for _, p := range r.Sent()[r.seen:] {
		r.seen++
		s := strings.ReplaceAll(string(p.Body), `{"jsonrpc":"2.0","id":`, "")
		s = strings.ReplaceAll(s, `"result":`, "")
		got = append(got, fmt.Sprintf("%d<%s", p.Client, strings.TrimSuffix(s, "}")))
	}
	if !slices.Equal(got, want) {
		r.Errorf("sent %q, want %q", got, want)
	}
}

func (r *rig) waiting(messages, documents, workers int) {
	r.Helper()
	if a, b, c := r.Waiting(); a != messages || b != documents || c != workers {
		r.Errorf("waiting %d %d %d, want %d %d %d", a, b, c, messages, documents, workers)
	}
}

func (r *rig) entries(want string) {
	r.Helper()
	var got []string
	for _, e := range r.Entries() {
		s := fmt.Sprintf("%s%d", e.URI, e.Version)
		for _, x := range e.Exports {
			s += x.Name
		}
		got = append(got, s)
	}
	if strings.Join(got, " ") != want {
		r.Errorf("entries %q, want %q", got, want)
	}
}

func failed(client int, id string, code int) string {
	return fmt.Sprintf(`%d<%s,"error":{"code":%d,"message":"%s"}`, client, id, code, rpc.Message(code))
}

func printed(v api.Value) string {
	b, _ := json.Print(v)
	return string(b)
}

// P21.1
func TestAnswer(t *testing.T) {
	s := "let id x = x ;;\nlet é = 1 ;; let b = id ()"
	for i, c := range []struct {
		q       api.Request
		version int
		s, want string
		code    int
	}{
		{api.Request{Do: api.DoHover, Char: 4}, 7, s, `{"version":7,"type":"'a -> 'a","from":{"line":0,"char":4},"to":{"line":0,"char":6}}`, 0}, {api.Request{Do: api.DoHover, Line: 1, Char: 21}, -7, s, `{"version":-7,"type":"unit -> unit","from":{"line":1,"char":21},"to":{"line":1,"char":23}}`, 0}, {api.Request{Do: api.DoHover, Char: 13}, 0, s, `{"version":0,"type":null}`, 0},
		{api.Request{Do: api.DoHover, Char: 16}, 0, s, "null", api.CodeParams}, {api.Request{Do: api.DoHover, Line: -1}, 0, s, "null", api.CodeParams}, {api.Request{Do: api.DoComplete, Line: 2}, 0, s, "null", api.CodeParams}, {api.Request{Do: api.DoRename, Line: 1, Char: 99, Name: "x"}, 0, s, "null", api.CodeParams},
		{api.Request{Do: api.DoComplete, Line: 1, Char: 22}, 1 << 40, s, `{"version":1099511627776,"names":["id"]}`, 0}, {api.Request{Do: api.DoComplete}, 1, "", `{"version":1,"names":[]}`, 0},
		{api.Request{Do: api.DoRename, Char: 4, Name: "f"}, 2, s, `{"version":2,"edits":[{"line":1,"char":21,"endLine":1,"endChar":23,"text":"f"},{"line":0,"char":4,"endLine":0,"endChar":6,"text":"f"}]}`, 0}, {api.Request{Do: api.DoRename, Char: 4, Name: "F"}, 2, s, "null", api.CodeParams}, {api.Request{Do: api.DoRename, Char: 3, Name: "f"}, 2, s, "null", api.CodeParams},
		{api.Request{Do: api.DoDiagnose}, 3, s, `{"version":3,"faults":[{"from":{"line":1,"char":4},"to":{"line":1,"char":5},"message":"syntax"}]}`, 0}, {api.Request{Do: api.DoDiagnose, Line: -5}, 3, "let w = fun x -> x x", `{"version":3,"faults":[{"from":{"line":0,"char":17},"to":{"line":0,"char":20},"message":"endless type"}]}`, 0}, {api.Request{Do: api.DoDiagnose}, 3, "", `{"version":3,"faults":[]}`, 0},
		{api.Request{Do: api.DoDiagnose}, 3, "\xff", "null", api.CodeParams}, {api.Request{Do: api.DoHover}, 3, "a\xff", "null", api.CodeParams}, {api.Request{}, 3, s, "null", api.CodeParams}, {api.Request{Do: api.DoExports}, 3, s, "null", api.CodeParams}, {api.Request{Do: api.DoOpen}, 3, s, "null", api.CodeParams}, {api.Request{Do: -1}, 3, s, "null", api.CodeParams}, {api.Request{Do: 99}, 3, s, "null", api.CodeParams},
	} {
		if v, code := Answer(c.q, c.version, c.s); printed(v) != c.want || code != c.code {
			t.Errorf("%d: %s %d, want %s", i, printed(v), code, c.want)
		}
	}
}

// P21.1
func TestNew(t *testing.T) {
	for _, n := range []int{0, 9, -1, 1 << 62, -1 << 63} {
		if s, e := New(vfs.New(-1), n); s != nil || e != api.ErrPick {
			t.Error(n, e)
		}
	}
	for n := 1; n <= 8; n++ {
		if s, e := New(vfs.New(0), n); s == nil || e != api.OK {
			t.Error(n, e)
		}
	}
	f := vfs.New(-1)
	f.Append("base")
	if s, e := New(f, 1); s != nil || e != api.ErrRecord {
		t.Error(e)
	}
}

// P21.2: the document's example.
func TestOneWorker(t *testing.T) {
	r := begin(t, 1, -1)
	r.do(api.OK, bytes(0, `{"jsonrpc":"2.0","id":1,"method":"open","params":{`+open("a", 3, "let f x = x")+`}}`), bytes(0, `{"jsonrpc":"2.0","id":2,"method":"hover","params":{`+at("a", 4)+`}}`))
	r.waiting(2, 0, 0)
	r.do(api.OK, dispatch(0), dispatch(0))
	r.sent(`0<1,null`)
	r.waiting(0, 1, 0)
	r.do(api.OK, work(0))
	r.sent()
	r.waiting(0, 0, 1)
	r.do(api.OK, work(0))
	r.sent(`0<2,{"version":3,"type":"'a -> 'a","from":{"line":0,"char":4},"to":{"line":0,"char":5}}`)
	r.entries("")
	r.do(api.OK, work(0))
	r.entries("a3f")
	r.waiting(0, 0, 1)
	r.do(api.OK, work(0))
	r.waiting(0, 0, 0)
	r.do(api.ErrPick, work(0))
	r.do(api.OK, crash(-1))
	r.entries("a3f")
	r.call(0, "5", "exports", `"uri":"a"`)
	r.sent(`0<5,{"version":3,"names":[{"name":"f","type":"'a -> 'a"}]}`)
}

// P21.2: events that can't be.
func TestPicks(t *testing.T) {
	r := begin(t, 2, -1)
	r.do(api.ErrPick, bytes(-1, ""), bytes(8, ""), bytes(1<<62, ""), dispatch(-1), dispatch(8), dispatch(0), work(-1), work(2), work(0), hang(-1), hang(8), api.Event{}, api.Event{Kind: 6}, api.Event{Kind: -1})
	r.do(api.OK, hang(7), bytes(6, "x"), api.Event{Kind: api.EvBytes, Client: 5})
	r.do(api.ErrPick, hang(7), bytes(7, ""), dispatch(7), dispatch(5))
	r.waiting(1, 0, 0)
	if c := r.Closed(); !slices.Equal(c, []int{7}) {
		t.Error(c)
	}
	r.do(api.OK, hang(6), hang(0))
	r.waiting(0, 0, 0)
	if c := r.Closed(); !slices.Equal(c, []int{0, 6, 7}) {
		t.Error(c)
	}
	r.do(api.OK, crash(-1))
	if c := r.Closed(); len(c) != 0 {
		t.Error(c)
	}
	r.do(api.OK, bytes(7, "x"))
}

// P21.2: messages that are no requests.
func TestMessages(t *testing.T) {
	r := begin(t, 1, -1)
	for body, want := range map[string]string{
		"": failed(3, "null", api.CodeParse), "\xff": failed(3, "null", api.CodeParse), "{": failed(3, "null", api.CodeParse), "{}": failed(3, "null", api.CodeRequest), `{"id":"x"}`: failed(3, `"x"`, api.CodeRequest), `{"jsonrpc":"2.0","method":"none"}`: failed(3, "null", api.CodeMethod), `{"jsonrpc":"2.0","id":4,"method":"none"}`: failed(3, "4", api.CodeMethod), `{"jsonrpc":"2.0","method":"close"}`: failed(3, "null", api.CodeParams),
		`{"jsonrpc":"2.0","id":` + strings.Repeat("[", 70): failed(3, "null", api.CodeParse),
	} {
		r.tell(3, body)
		r.sent(want)
	}
	id := `"` + strings.Repeat("i", 65000) + `"`
	r.call(3, id, "shutdown", "")
	r.sent("3<" + id + ",null")
	id = `"` + strings.Repeat("\\u001f", 10900) + `"`
	r.call(4, id, "cancel", `"id":1`)
	r.sent("4<" + id + ",null")
	id = `"` + strings.Repeat("/", 65430) + `"`
	r.call(4, id, "shutdown", "")
	r.sent("4<" + id + ",null")
	r.tell(5, `{"jsonrpc":"2.0","id":"`+strings.Repeat("/", 65490)+`","method":1}`)
	r.sent("5<")
}

// P21.2: open, change and close.
func TestDocuments(t *testing.T) {
	r := begin(t, 1, -1)
	r.call(0, "1", "open", open("a", 5, "let x = 1"))
	r.call(0, "2", "open", open("a", 6, ""))
	r.call(1, "3", "open", open("a", 6, ""))
	r.call(0, "4", "open", open("b", 6, strings.Repeat("x", api.MaxText+1)))
	r.call(0, "5", "open", open("c", 0, strings.Repeat("x", api.MaxText)))
	r.sent("0<1,null", failed(0, "2", api.CodeParams), failed(1, "3", api.CodeParams), failed(0, "4", api.CodeParams), "0<5,null")
	r.waiting(0, 2, 0)
	r.call(1, "1", "change", change("a", 9, " "))
	r.call(0, "2", "change", change("b", 9, " "))
	r.call(0, "3", "change", change("a", 5, " "))
	r.call(0, "4", "change", change("c", 9, " "))
	r.call(0, "5", "change", `"uri":"a","version":6,"edits":[{"line":0,"char":99,"endLine":0,"endChar":0,"text":""}]`)
	r.call(0, "6", "change", `"uri":"a","version":5,"edits":[{"line":0,"char":99,"endLine":0,"endChar":0,"text":""}]`)
	r.call(0, "7", "change", change("a", 6, " "))
	r.call(0, "8", "change", `"uri":"a","version":7,"edits":[]`)
	r.sent(failed(1, "1", api.CodeUnknown), failed(0, "2", api.CodeUnknown), failed(0, "3", api.CodeModified), failed(0, "4", api.CodeParams), failed(0, "5", api.CodeParams), failed(0, "6", api.CodeModified), "0<7,null", "0<8,null")
	r.waiting(0, 4, 0)
	r.call(1, "1", "close", `"uri":"a"`)
	r.call(0, "2", "close", `"uri":"b"`)
	r.call(0, "3", "close", `"uri":"a"`)
	r.call(0, "4", "close", `"uri":"a"`)
	r.call(1, "5", "open", open("a", 1, ""))
	r.call(1, "6", "exports", `"uri":"a"`)
	r.call(0, "", "open", open("d", 1, "")) // no answer is wanted, and it's open
	r.call(0, "", "open", open("d", 1, ""))
	r.call(0, "", "exports", `"uri":"a"`)
	r.call(0, "7", "open", open("d", 1, ""))
	r.sent(failed(1, "1", api.CodeUnknown), failed(0, "2", api.CodeUnknown), "0<3,null", failed(0, "4", api.CodeUnknown), "1<5,null", failed(1, "6", api.CodeUnknown), failed(0, "7", api.CodeParams))
	r.waiting(0, 6, 0)
}

// P21.2, P5: questions are answered about what there was when they were taken.
func TestQuestions(t *testing.T) {
	r := begin(t, 2, -1)
	r.call(0, "1", "open", open("a", 1, "let x = 1"))
	r.call(1, "2", "hover", at("a", 4))
	r.call(0, "3", "change", change("a", 2, "let x = () ;; "))
	r.call(2, "4", "hover", at("a", 4))
	r.call(0, "5", "hover", at("a", 4))
	r.call(0, "", "hover", at("a", 4))
	r.call(0, "", "hover", at("none", 4))
	r.call(0, "6", "hover", at("none", 4))
	r.call(0, "7", "complete", at("a", 99))
	r.sent("0<1,null", "0<3,null", failed(0, "6", api.CodeUnknown))
	r.do(api.OK, work(0), work(1), work(1))
	unit := `{"version":2,"type":"unit","from":{"line":0,"char":4},"to":{"line":0,"char":5}}`
	r.sent("2<4,"+unit, "0<5,"+unit, failed(0, "7", api.CodeParams))
	r.call(3, "8", "hover", at("a", 4)) // typed already
	r.call(3, "9", "diagnostics", `"uri":"a"`)
	r.sent("3<8,"+unit, `3<9,{"version":2,"faults":[]}`)
	r.call(0, "10", "close", `"uri":"a"`)
	r.call(0, "11", "open", open("a", 0, "let x = true"))
	r.call(0, "12", "hover", at("a", 4))
	r.sent("0<10,null", "0<11,null")
	r.do(api.OK, work(0))
	r.sent(`1<2,{"version":1,"type":"int","from":{"line":0,"char":4},"to":{"line":0,"char":5}}`)
	// what is older isn't published behind what is newer
	r.do(api.OK, work(1))
	r.entries("a2x")
	r.do(api.OK, work(0), work(0))
	r.entries("a2x")
	r.do(api.OK, work(0), work(0))
	r.sent(`0<12,{"version":0,"type":"bool","from":{"line":0,"char":4},"to":{"line":0,"char":5}}`)
	r.do(api.OK, work(0))
	r.entries("a0x")
	r.waiting(0, 0, 2)
}

// P21.2: cancel, shutdown, and clients that are gone.
func TestGone(t *testing.T) {
	r := begin(t, 1, -1)
	r.call(0, "1", "open", open("a", 1, "let x = 1"))
	for _, id := range []string{`"h"`, "7", `"7"`, "7"} {
		r.call(0, id, "hover", at("a", 4))
	}
	r.call(1, "7", "hover", at("a", 4))
	r.call(0, "2", "cancel", `"id":7`)
	r.call(0, "3", "cancel", `"id":7`)
	r.call(0, "", "cancel", `"id":"h"`)
	r.sent("0<1,null", failed(0, "7", api.CodeCancel), failed(0, "7", api.CodeCancel), "0<2,null", "0<3,null", failed(0, `"h"`, api.CodeCancel))
	r.do(api.OK, bytes(0, "x"), bytes(0, "x"))
	r.do(api.OK, hang(0))
	r.sent()
	r.waiting(0, 1, 0)
	r.call(1, "8", "hover", at("a", 4))
	r.do(api.OK, work(0), work(0), work(0), work(0))
	r.sent(failed(1, "8", api.CodeUnknown), `1<7,{"version":1,"type":"int","from":{"line":0,"char":4},"to":{"line":0,"char":5}}`)
	r.entries("a1x")
	r.call(1, "1", "open", open("a", 1, "let y = 1"))
	r.call(1, "2", "open", open("b", 1, "let y = 1"))
	r.call(2, "9", "complete", at("b", 0))
	r.call(1, "3", "complete", at("a", 0))
	r.call(1, "4", "complete", at("b", 0))
	r.do(api.OK, bytes(1, `{"jsonrpc":"2.0","id":5,"method":"shutdown"}`), bytes(1, "x"), dispatch(1))
	r.sent("1<1,null", "1<2,null", failed(1, "3", api.CodeCancel), failed(1, "4", api.CodeCancel), "1<5,null")
	r.do(api.ErrPick, dispatch(1), bytes(1, ""), hang(1))
	r.waiting(0, 2, 0)
	r.call(2, "6", "open", open("a", 1, ""))
	r.call(3, "", "shutdown", "")
	r.sent("2<6,null")
	if c := r.Closed(); !slices.Equal(c, []int{0, 1, 3}) {
		t.Error(c)
	}
	// a stream that goes wrong: also what came ahead of the fault is dropped
	good := bytes(2, "x")
	r.do(api.OK, api.Event{Kind: api.EvBytes, Client: 2, Data: append(good.Data, "\r\n"...)})
	r.do(api.ErrPick, dispatch(2), bytes(2, "x"))
	r.do(api.OK, slices.Repeat([]api.Event{work(0)}, 6)...)
	r.entries("a1y")
	r.do(api.OK, slices.Repeat([]api.Event{work(0)}, 6)...)
	r.sent()
	r.entries("a1 b1y")
}

// P21.2, P6: the power.
func TestPower(t *testing.T) {
	r := begin(t, 2, 1)
	r.call(0, "1", "open", open("a", 1, "let x = 1"))
	r.call(0, "2", "open", open("b", 1, "let x = 1"))
	r.call(0, "3", "hover", at("b", 4))
	r.do(api.OK, work(0), work(1), work(0), work(0))
	r.entries("a1x")
	r.do(api.ErrDown, work(0))
	r.waiting(0, 0, 1)
	r.entries("")
	r.do(api.ErrPick, work(0), dispatch(0), dispatch(9), hang(9), work(7), api.Event{Kind: 9})
	r.do(api.ErrDown, work(1), hang(0), bytes(0, "x"))
	r.waiting(0, 0, 1)
	r.do(api.OK, crash(0, 0))
	r.waiting(0, 0, 0)
	r.entries("")
	r.sent("0<1,null", "0<2,null")
	r.call(0, "1", "open", open("a", 4, "let y = 1"))
	r.do(api.OK, work(0), work(0))
	r.do(api.ErrDown, work(0))
	r.waiting(0, 0, 1)
	r.do(api.ErrDown, work(0))
	r.do(api.OK, crash(-1))
	r.call(0, "1", "open", open("a", 4, "let y = 1"))
	r.do(api.OK, work(0), work(0), work(0))
	r.do(api.OK, crash(0)) // nothing was synced
	r.entries("")
	r.sent("0<1,null", "0<1,null")
}

// P21.2: a crash behind which the index can't be opened.
func TestCrashDown(t *testing.T) {
	r := begin(t, 1, -1)
	r.call(0, "1", "open", open("a", 4, "let y = 1"))
	r.do(api.OK, work(0), work(0), work(0))
	r.do(api.ErrDown, crash(0, 5))
	r.waiting(0, 0, 0)
	r.do(api.ErrDown, bytes(0, "x"), hang(0))
	r.do(api.ErrPick, dispatch(0), work(0), hang(8))
	r.entries("")
	r.do(api.ErrDown, crash(0, 5))
	r.do(api.OK, crash(-1))
	r.call(0, "2", "exports", `"uri":"a"`)
	r.sent("0<1,null", failed(0, "2", api.CodeUnknown))
}

// P21.2: a record that is too long is passed over.
func TestLongRecord(t *testing.T) {
	r := begin(t, 1, -1)
	r.call(0, "1", "open", open("a", 1, "let x = 1"))
	r.do(api.OK, work(0), work(0), work(0), work(0))
	wide := "(1" + strings.Repeat(",1", 250) + ")"
	var s strings.Builder
	for i := range 60 {
		fmt.Fprintf(&s, "let x%d = %s;;", i, wide)
	}
	r.call(0, "2", "change", change("a", 2, s.String()))
	r.do(api.OK, work(0), work(0), work(0), work(0))
	r.entries("a1x")
	r.sent("0<1,null", "0<2,null")
}

// P5, P7: whatever the order of the workers' steps and other clients' bytes, each request is answered once, and so.
func TestAnyOrder(t *testing.T) {
	answers := func(seed int64, noise bool) map[string][]string {
		r := rand.New(rand.NewSource(seed))
		s, _ := New(vfs.New(-1), 3)
		for i := range 30 {
			v := i / 2
			q := []string{change("a", v+1, fmt.Sprintf("let x%d = (", v)+strings.Repeat("1,", v%4)+"1) ;; "), at("a", 4)}[i%2]
			method := []string{"change", "hover"}[i%2]
			if i == 0 {
				method, q = "open", open("a", 0, "")
			}
			s.Do(bytes(0, fmt.Sprintf(`{"jsonrpc":"2.0","id":%d,"method":"%s","params":{%s}}`, i, method, q)))
			s.Do(dispatch(0))
			if noise {
				s.Do(api.Event{Kind: api.EvBytes, Client: 1 + r.Intn(7), Data: []byte([]string{"x", "\r\n", "Content-Length: 1\r\n\r\n{", ""}[r.Intn(4)])})
				s.Do(dispatch(1 + r.Intn(7)))
			}
			for range r.Intn(5) {
				s.Do(work(r.Intn(3)))
			}
		}
		for range 300 {
			s.Do(work(r.Intn(3)))
		}
		out := map[string][]string{}
		for _, p := range s.Sent() {
			if p.Client == 0 {
				v, _ := json.Parse(p.Body)
				id, _ := json.Get(v, "id")
				out[id.Text] = append(out[id.Text], string(p.Body))
			}
		}
		if list := s.Entries(); len(list) != 1 || list[0].Version != 15 {
			t.Fatal(list)
		}
		return out
	}
	want := answers(0, false)
	for id, list := range want {
		if len(list) != 1 {
			t.Fatal(id, list)
		}
	}
	for seed := range int64(60) {
		if got := answers(seed, seed%2 == 0); !reflect.DeepEqual(got, want) {
			t.Fatal(seed, got, want)
		}
	}
}

// P21.4
func TestMemory(t *testing.T) {
	r := begin(t, 1, -1)
	e := bytes(0, "x")
	r.do(api.OK, e)
	for i := range e.Data {
		e.Data[i] = 'z'
	}
	r.do(api.OK, dispatch(0))
	r.Sent()[0].Body[0] = 'q'
	r.sent(failed(0, "null", api.CodeParse))
}
