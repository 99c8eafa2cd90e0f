package scheme

import (
	"bytes"
	"math/rand"
	"slices"
	"strconv"
	"strings"
	"testing"

	"parlance/api"
	"parlance/types"
)

func typ(s string) api.Type {
	t, e := types.Read(s)
	if e != api.OK {
		panic(s)
	}
	return t
}

func export(name, t string) api.Export { return api.Export{Name: name, Type: typ(t)} }

func same(a, b []api.Export) bool {
	return slices.EqualFunc(a, b, func(x, y api.Export) bool { return x.Name == y.Name && types.Same(x.Type, y.Type) })
}

func many(n int) []api.Export {
	var list []api.Export
	for i := range n {
		list = append(list, export("x"+strconv.Itoa(100000+i), "int"))
	}
	return list
}

func wide(n int) api.Type {
	t := api.Type{Kind: api.KPair}
	for range n {
		t.Args = append(t.Args, typ("int"))
	}
	return t
}

// P14.1
func TestClosed(t *testing.T) {
	for s, want := range map[string]bool{"int": true, "'a": true, "'a -> 'b": true, "'b -> 'a": false, "'b": false, "('a, 'b) t -> 'a * 'c": true, "'a -> 'c": false} {
		if Closed(typ(s)) != want {
			t.Error(s)
		}
	}
	for _, x := range []api.Type{{}, {Kind: api.KPair}, {Kind: api.KVar, Num: -1}, wide(300)} {
		if Closed(x) {
			t.Error(x)
		}
	}
}

func wrongLists() [][]api.Export {
	long := strings.Repeat("n", 256)
	return [][]api.Export{
		{export("x", "'b")}, {{Name: "x"}}, {{Name: "X", Type: typ("int")}}, {{Name: "", Type: typ("int")}}, {{Name: "let", Type: typ("int")}}, {{Name: "_", Type: typ("int")}}, {{Name: long, Type: typ("int")}}, {{Name: "x", Type: typ(long)}}, {{Name: "x", Type: typ("int " + long + " list")}},
		{export("b", "int"), export("a", "int")}, {export("a", "int"), export("a", "int")}, many(1001), {{Name: "x", Type: wide(256)}}, {{Name: "x", Type: wide(300)}},
	}
}

// P14.1
func TestEncode(t *testing.T) {
	if b, e := Encode([]api.Export{export("id", "'a -> 'a")}); e != api.OK || !bytes.Equal(b, []byte{0, 1, 2, 105, 100, 4, 2, 1, 0, 0, 0, 0, 1, 0, 0, 0, 0}) {
		t.Error(b, e)
	}
	if b, e := Encode([]api.Export{export("a'", "int * 'a"), export("b", "('a, 'b) t list")}); e != api.OK || string(b) != "\x00\x02\x02a'\x03\x02\x02\x03int\x00\x01\x00\x00\x00\x00\x01b\x02\x04list\x01\x02\x01t\x02\x01\x00\x00\x00\x00\x01\x00\x00\x00\x01" {
		t.Errorf("%q %d", b, e)
	}
	for i, list := range wrongLists() {
		if b, e := Encode(list); Right(list) || len(b) != 0 || e != api.ErrScheme {
			t.Error(i, e)
		}
	}
	name := strings.Repeat("n", 255)
	for i, list := range [][]api.Export{nil, {}, many(1000), {{Name: name, Type: typ(name)}}, {{Name: "x", Type: wide(255)}}, {export("a", "int"), export("aa", "int"), export("b", "int")}} {
		b, e := Encode(list)
		back, f := Decode(b)
		if !Right(list) || e != api.OK || f != api.OK || !same(back, list) {
			t.Error(i, e, f)
		}
	}
}

// P14.1: bytes of no exports.
func TestDecodeErrors(t *testing.T) {
	good, _ := Encode([]api.Export{export("a", "'a -> int list"), export("b", "int * 'a")})
	for n := range good {
		if list, e := Decode(good[:n]); len(list) != 0 || e != api.ErrScheme {
			t.Error(n, list, e)
		}
	}
	deep := strings.Repeat("\x03\x02", 100000)
	for _, s := range []string{string(good) + "\x00", "", "\x00", "\x00\x00\x00", "\x00\x01", "\x00\x01\x00\x01\x00\x00\x00\x00", "\x00\x01\x01x\x01\x00\x00\x00\x01", "\x00\x01\x01x\x00\x00", "\x00\x01\x01x\x05\x00", "\x00\x01\x01X\x02\x03int\x00", "\x00\x01\x01x\x02\x03Int\x00", "\x00\x01\x01x\x03\x01\x02\x03int\x00", "\x00\x01\x01x\x04\x03" + strings.Repeat("\x02\x03int\x00", 3), "\x00\x02\x01b\x02\x03int\x00\x01a\x02\x03int\x00", "\x00\x02\x01a\x02\x03int\x00\x01a\x02\x03int\x00", "\x00\x01\x01x" + deep, "\xff\xff" + strings.Repeat("\x01x\x02\x03int\x00", 65535), "\x00\x01\x01x\x01\xff\xff\xff\xff"} {
		if list, e := Decode([]byte(s)); len(list) != 0 || e != api.ErrScheme {
			t.Errorf("%.40q %v %d", s, list, e)
		}
	}
	r := rand.New(rand.NewSource(1))
	for range 50000 {
		b := slices.Clone(good)
		for range 1 + r.Intn(3) {
			b[r.Intn(len(b))] = byte(r.Intn(256) >> uint(r.Intn(8)))
		}
		if list, e := Decode(b); e == api.OK {
			if again, _ := Encode(list); !bytes.Equal(again, b) {
				t.Fatal(b)
			}
		}
	}
}

// P14.2
func TestLists(t *testing.T) {
	odd := []api.Export{export("b", "int"), export("a", "bool"), export("b", "'b")}
	if x, ok := Find(odd, "b"); !ok || !types.Same(x, typ("'b")) {
		t.Error(x, ok)
	}
	if x, ok := Find(odd, "c"); ok || !types.Same(x, api.Type{}) {
		t.Error(x, ok)
	}
	if got := Drop(odd, "b"); !same(got, []api.Export{export("a", "bool")}) {
		t.Error(got)
	}
	if got := Drop(odd, "x"); !same(got, odd) {
		t.Error(got)
	}
	list := []api.Export{export("b", "int"), export("d", "int")}
	for _, c := range []struct {
		name string
		want []api.Export
	}{
		{"a", []api.Export{export("a", "'a"), export("b", "int"), export("d", "int")}}, {"c", []api.Export{export("b", "int"), export("c", "'a"), export("d", "int")}}, {"e", []api.Export{export("b", "int"), export("d", "int"), export("e", "'a")}}, {"b", []api.Export{export("b", "'a"), export("d", "int")}}, {"d", []api.Export{export("b", "int"), export("d", "'a")}},
	} {
		if got, e := Put(list, c.name, typ("'a")); e != api.OK || !same(got, c.want) {
			t.Error(c.name, got, e)
		}
	}
	if got, e := Put(odd, "b", typ("int")); e != api.OK || !same(got, []api.Export{export("a", "bool"), export("b", "int")}) {
		t.Error(got, e)
	}
	if got, e := Put(many(1000), "x100005", typ("bool")); e != api.OK || len(got) != 1000 {
		t.Error(e)
	}
	for i, c := range []struct {
		list []api.Export
		name string
		t    api.Type
	}{{odd, "c", typ("int")}, {list, "C", typ("int")}, {list, "c", typ("'b")}, {list, "c", api.Type{}}, {many(1000), "y", typ("int")}, {[]api.Export{export("d", "int"), export("b", "int")}, "c", typ("int")}, {list, strings.Repeat("n", 256), typ("int")}} {
		if got, e := Put(c.list, c.name, c.t); len(got) != 0 || e != api.ErrScheme {
			t.Error(i, got, e)
		}
	}
}

// P14.3
func TestMemory(t *testing.T) {
	list := []api.Export{export("a", "int list"), export("b", "int list")}
	x := typ("int list")
	put, _ := Put(list, "c", x)
	found, _ := Find(list, "a")
	drop := Drop(list, "b")
	for _, y := range []api.Type{put[0].Type, put[2].Type, found, drop[0].Type} {
		y.Args[0].Name = "q"
	}
	if !same(list, []api.Export{export("a", "int list"), export("b", "int list")}) || x.Args[0].Name != "int" || put[1].Type.Args[0].Name != "int" {
		t.Error(list, x)
	}
	b, _ := Encode(list)
	got, _ := Decode(b)
	b[3] = 'z'
	if got[0].Name != "a" {
		t.Error(got)
	}
}
