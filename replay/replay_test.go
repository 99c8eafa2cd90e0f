package replay

import (
	"math/rand"
	"slices"
	"strings"
	"testing"

	"parlance/api"
)

// P22.1
func TestParse(t *testing.T) {
	s := "# a remark\n\nbytes 0 00ff7a\nsend -3 {}\nsend 1 \nsend 2  a b \ndispatch 7\nhang 0\nwork 999999999\n#\ncrash -1\ncrash 0 5 -999999999 0"
	want := []api.Event{
		{Kind: api.EvBytes, Data: []byte{0, 255, 122}}, {Kind: api.EvBytes, Client: -3, Data: []byte("Content-Length: 2\r\n\r\n{}")}, {Kind: api.EvBytes, Client: 1, Data: []byte("Content-Length: 0\r\n\r\n")}, {Kind: api.EvBytes, Client: 2, Data: []byte("Content-Length: 5\r\n\r\n a b ")},
		{Kind: api.EvDispatch, Client: 7}, {Kind: api.EvHang}, {Kind: api.EvWork, Worker: 999999999}, {Kind: api.EvCrash, Power: -1}, {Kind: api.EvCrash, Keeps: []int{5, -999999999, 0}},
	}
	for _, tail := range []string{"", "\n", "\n\n\n", "\n# end"} {
		got, line, e := Parse(s + tail)
		if !slices.EqualFunc(got, want, same) || line != 0 || e != api.OK {
			t.Error(got, line, e)
		}
	}
	for _, s := range []string{"", "\n", "#", "# x\n\n"} {
		if got, line, e := Parse(s); len(got) != 0 || line != 0 || e != api.OK {
			t.Errorf("%q %v %d %d", s, got, line, e)
		}
	}
}

// P22.1: lines that aren't made as told.
func TestParseErrors(t *testing.T) {
	for _, bad := range []string{
		" ", " #", "x", "Work 1", "work", "work ", "work  1", "work 1 ", " work 1", "work 1 2", "work 01", "work -0", "work +1", "work -", "work 1000000000", "work -1000000000", "work 1x", "work 1\r", "work\t1", "work 0x1", "work 00", "dispatch", "dispatch a", "hang", "hang 1 1",
		"bytes", "bytes 0", "bytes 0 ", "bytes 0 0", "bytes 0 000", "bytes 0 0G", "bytes 0 FF", "bytes 0 00 ", "bytes 0 00 00", "bytes 0  00", "bytes 00", "bytes x 00", "bytes  00", "send", "send ", "send 0", "send x a", "send  a", "send 01 a", "send 0 " + strings.Repeat("x", api.MaxBody+1),
		"crash", "crash ", "crash x", "crash 1 ", "crash 1  2", "crash 1 2 x", "crash -", "works 1", "sends 0 a", "\x00", "work 1\x00",
	} {
		for _, s := range []string{bad, bad + "\n", bad + "\nx"} {
			if got, line, e := Parse(s); len(got) != 0 || line != 1 || e != api.ErrLine {
				t.Errorf("%.40q: %v %d %d", s, got, line, e)
			}
		}
		if got, line, e := Parse("# a\n\nwork 1\n" + bad + "\nx"); len(got) != 0 || line != 4 || e != api.ErrLine {
			t.Errorf("%.40q: %v %d %d", bad, got, line, e)
		}
	}
	if got, _, e := Parse("send 0 " + strings.Repeat("x", api.MaxBody)); len(got) != 1 || e != api.OK {
		t.Error(e)
	}
}

// P22.2
func TestShow(t *testing.T) {
	list, _, _ := Parse("send 0 {}\nwork 1\ncrash -1 5 0\nhang -2\ndispatch 0\ncrash 7\nbytes 3 0a")
	if s, e := Show(list...); s != "bytes 0 436f6e74656e742d4c656e6774683a20320d0a0d0a7b7d\nwork 1\ncrash -1 5 0\nhang -2\ndispatch 0\ncrash 7\nbytes 3 0a\n" || e != api.OK {
		t.Errorf("%q %d", s, e)
	}
	if s, e := Show(); s != "" || e != api.OK {
		t.Errorf("%q %d", s, e)
	}
	for i, e := range []api.Event{
		{}, {Kind: -1}, {Kind: 6}, {Kind: api.EvBytes}, {Kind: api.EvBytes, Data: []byte{}}, {Kind: api.EvBytes, Data: []byte{1}, Worker: 1}, {Kind: api.EvBytes, Data: []byte{1}, Power: 1}, {Kind: api.EvBytes, Data: []byte{1}, Keeps: []int{1}}, {Kind: api.EvBytes, Data: []byte{1}, Client: 1 << 40},
		{Kind: api.EvWork, Client: 1}, {Kind: api.EvWork, Data: []byte{1}}, {Kind: api.EvWork, Worker: 1000000000}, {Kind: api.EvWork, Worker: -1 << 63}, {Kind: api.EvDispatch, Worker: 1}, {Kind: api.EvHang, Power: 1}, {Kind: api.EvHang, Keeps: []int{0}}, {Kind: api.EvCrash, Client: 1}, {Kind: api.EvCrash, Worker: 1}, {Kind: api.EvCrash, Data: []byte{1}}, {Kind: api.EvCrash, Power: 1 << 31}, {Kind: api.EvCrash, Keeps: []int{-1000000000}},
	} {
		if s, err := Show(api.Event{Kind: api.EvWork}, e); s != "" || err != api.ErrLine {
			t.Errorf("%d: %q %d", i, s, err)
		}
	}
	r := rand.New(rand.NewSource(1))
	for range 20000 {
		pick := func() int { return []int{0, 1, -1, 5, 999999999, -999999999, 0, 0}[r.Intn(8)] }
		var list []api.Event
		for range r.Intn(4) {
			e := api.Event{Kind: 1 + r.Intn(5)}
			switch e.Kind {
			case api.EvBytes:
				e.Client, e.Data = pick(), make([]byte, 1+r.Intn(5))
				r.Read(e.Data)
			case api.EvWork:
				e.Worker = pick()
			case api.EvCrash:
				e.Power = pick()
				for range r.Intn(3) {
					e.Keeps = append(e.Keeps, pick())
				}
			default:
				e.Client = pick()
			}
			list = append(list, e)
		}
		s, e := Show(list...)
		if back, _, f := Parse(s); e != api.OK || f != api.OK || !slices.EqualFunc(back, list, same) || strings.Count(s, "\n") != len(list) {
			t.Fatal(list, s, e, f)
		}
	}
}

// P22.3
func TestTell(t *testing.T) {
	for want, p := range map[string]api.Packet{"0 {}": {Body: []byte("{}")}, "7 ": {Client: 7}, `-1 a\nb\\n\\\\` + "\r\xff": {Client: -1, Body: []byte("a\nb\\n\\\\\r\xff")}} {
		if got := Tell(p); got != want {
			t.Errorf("%q, want %q", got, want)
		}
	}
}

// P22.3 and the document's examples of the whole.
func TestRun(t *testing.T) {
	for _, c := range []struct {
		s    string
		want []string
	}{
		{"", nil},
		{"send 0 {}\ndispatch 0\n", []string{`0 {"jsonrpc":"2.0","id":null,"error":{"code":-32600,"message":"invalid request"}}`}},
		{"bytes 2 436f6e74656e742d4c656e6774683a20310d0a0d0aff\ndispatch 2\nhang 0\nhang 0\nwork 3", []string{`2 {"jsonrpc":"2.0","id":null,"error":{"code":-32700,"message":"parse error"}}`}},
		{`# a hover that waits, though the text is another one by then
send 1 {"jsonrpc":"2.0","id":1,"method":"open","params":{"uri":"a","version":1,"text":"let id x = x"}}
send 1 {"jsonrpc":"2.0","id":2,"method":"hover","params":{"uri":"a","line":0,"char":4}}
send 1 {"jsonrpc":"2.0","id":3,"method":"change","params":{"uri":"a","version":2,"edits":[{"line":0,"char":11,"endLine":0,"endChar":12,"text":"1"}]}}
bytes 2 0d0a
dispatch 1
work 0
dispatch 1
dispatch 1
work 0
work 0
work 0
crash -1
send 2 {"jsonrpc":"2.0","id":"\\","method":"exports","params":{"uri":"a"}}
dispatch 2
`, []string{
			`1 {"jsonrpc":"2.0","id":1,"result":null}`, `1 {"jsonrpc":"2.0","id":3,"result":null}`,
			`1 {"jsonrpc":"2.0","id":2,"result":{"version":1,"type":"'a -> 'a","from":{"line":0,"char":4},"to":{"line":0,"char":6}}}`,
			`2 {"jsonrpc":"2.0","id":"\\\\","result":{"version":1,"names":[{"name":"id","type":"'a -> 'a"}]}}`,
		}},
	} {
		if got, line, e := Run(1, c.s); !slices.Equal(got, c.want) || line != 0 || e != api.OK {
			t.Errorf("%q %d %d", got, line, e)
		}
	}
	for _, n := range []int{0, 9, -1} {
		if got, line, e := Run(n, "work 1"); len(got) != 0 || line != 0 || e != api.ErrPick {
			t.Error(got, line, e)
		}
		if got, line, e := Run(n, "work 1\nx"); len(got) != 0 || line != 2 || e != api.ErrLine {
			t.Error(got, line, e)
		}
	}
}

// P22.4
func TestMemory(t *testing.T) {
	list, _, _ := Parse("bytes 0 61\ncrash 1 2 3")
	Show(list...)
	body := []byte("a\nb")
	Tell(api.Packet{Body: body})
	if string(list[0].Data) != "a" || !slices.Equal(list[1].Keeps, []int{2, 3}) || string(body) != "a\nb" {
		t.Error(list)
	}
}
