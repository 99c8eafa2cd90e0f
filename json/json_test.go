package json

import (
	standard "encoding/json"
	"math/rand"
	"strings"
	"testing"

	"parlance/api"
)

func number(s string) api.Value { return api.Value{Kind: api.VNumber, Text: s} }
func str(s string) api.Value    { return api.Value{Kind: api.VString, Text: s} }
func array(items ...api.Value) api.Value {
	return api.Value{Kind: api.VArray, Items: items}
}

func nest(depth int, v api.Value) api.Value {
	for i := range depth {
		if i%2 == 0 {
			v = array(v)
		} else {
			v = api.Value{Kind: api.VObject, Names: []string{"a"}, Items: []api.Value{v}}
		}
	}
	return v
}

// P5.1: values and what they are printed as.
func TestParse(t *testing.T) {
	for in, want := range map[string]string{
		"null": "null", " true\r\n": "true", "\tfalse": "false",
		"0": "0", "-0": "-0", "10.50e+07": "10.50e+07", "-2.5E-3": "-2.5E-3", "1e5": "1e5", "123456789012345678901234567890": "123456789012345678901234567890",
		`""`: `""`, `"a\/\"\\\b\f\n\r\t"`: `"a/\"\\\b\f\n\r\t"`, `"\u0041\u00e9\u20AC\ud83d\ude00\u0000\u001f\u007f"`: "\"Aé€😀\\u0000\\u001f\x7f\"",
		"[]": "[]", "[ ]": "[]", "{ }": "{}", "[1 ,2, [ ]]": "[1,2,[]]", `{"a" : 1 , "a":{"":null}}`: `{"a":1,"a":{"":null}}`,
		`{"a": [1, -2.5e3, "\ud83d\ude00"]}`: `{"a":[1,-2.5e3,"😀"]}`,
		`"\uFFFF\ue000\ud7ff"`:               "\"\uffff\ue000\ud7ff\"", "\"\x7f\"": "\"\x7f\"", `"\uDBFF\uDFFF"`: "\"\U0010ffff\"",
	} {
		v, e := Parse([]byte(in))
		b, f := Print(v)
		if e != api.OK || f != api.OK || string(b) != want || !Right(v) {
			t.Errorf("%q: %d %d %q", in, e, f, b)
		}
	}
	v, _ := Parse([]byte(`{"x":[true,"\n"],"y":-1.0}`))
	want := api.Value{Kind: api.VObject, Names: []string{"x", "y"}, Items: []api.Value{array(api.Value{Kind: api.VTrue}, str("\n")), number("-1.0")}}
	if !Same(v, want) {
		t.Error(v)
	}
}

// P5.1: bytes that are no value.
func TestParseFaults(t *testing.T) {
	for _, in := range []string{
		"", " ", "nul", "nulll", "True", "01", "-", "-a", "+1", ".5", "1.", "1.e5", "1e", "1e+", "0x1", "00", "-01", "1 2", "\v1", "\x00", "1\x00", "\u00a01",
		"[", "]", "[1,]", "[,1]", "[1 2]", "[1", "[1}", "{", "}", "{]", `{"a"}`, `{"a":}`, `{"a":1,}`, `{,}`, `{a:1}`, `{1:1}`, `{"a" 1}`, `{"a":1 "b":2}`, `{"a":1`,
		`"`, `"a`, `"\`, `"\"`, `"\a"`, `"\u"`, `"\u12"`, `"\u12g4"`, "\"\n\"", "\"\x1f\"", "\"\x00\"", `"\ud83d"`, `"\ude00"`, `"\ud83d\n"`, `"\ud83d\u0041"`, `"\ud83d\ud83d\ude00"`, `"\ud83dx\ude00"`, `"\ude00\ud83d"`, `"\U0041"`, "'a'", "/**/1", "\ufeff1",
	} {
		if v, e := Parse([]byte(in)); e != api.ErrJSON || !Same(v, api.Value{}) {
			t.Errorf("%q: %d %v", in, e, v)
		}
	}
	for _, in := range []string{"\xff", "\"\xff\"", "[\x80", "\"\xed\xa0\x80\"", "x\xc3"} {
		if v, e := Parse([]byte(in)); e != api.ErrUtf || !Same(v, api.Value{}) {
			t.Errorf("%q: %d %v", in, e, v)
		}
	}
	long := "1" + strings.Repeat(" ", api.MaxBody-1)
	if _, e := Parse([]byte(long)); e != api.OK {
		t.Error(e)
	}
	if _, e := Parse([]byte(long + "\xff")); e != api.ErrLarge {
		t.Error(e)
	}
}

// P5.1: depth.
func TestDepth(t *testing.T) {
	open := strings.Repeat("[", 64)
	for in, want := range map[string]api.Errno{
		open + strings.Repeat("]", 64): api.OK, open + "1" + strings.Repeat("]", 64): api.OK, open + "[": api.ErrDeep, open + "{": api.ErrDeep,
		open[1:] + "{\"a\":[": api.ErrDeep, open[1:] + "{\"a\":1": api.ErrJSON, open[1:] + "{[": api.ErrJSON, "x" + open + "[": api.ErrJSON, "1" + open + "[": api.ErrJSON,
		open + "1[": api.ErrJSON, open + ",[": api.ErrJSON, open + "1,[": api.ErrDeep, open[1:] + "[] [": api.ErrJSON, open + "\"[\"": api.ErrJSON, open + "[\xff": api.ErrUtf,
	} {
		if v, e := Parse([]byte(in)); e != want || e != api.OK && !Same(v, api.Value{}) {
			t.Errorf("%q: %d", in, e)
		}
	}
}

// P5.1 against the standard library, which knows of no depth and takes lone surrogates.
func TestParseAgainst(t *testing.T) {
	r := rand.New(rand.NewSource(1))
	words := []string{"[", "]", "{", "}", ",", ":", "\"a\"", "\"", "\\", "u", "12", "0", "-", ".", "e", "+", "null", "true", "false", " ", "\n", "\"\"", "1", "é", "\x01", "\\n", "[]", "{}", "\"b\":"}
	right := 0
	for range 200000 {
		var b strings.Builder
		for range 1 + r.Intn(7) {
			b.WriteString(words[r.Intn(len(words))])
		}
		v, e := Parse([]byte(b.String()))
		if (e == api.OK) != standard.Valid([]byte(b.String())) {
			t.Fatalf("%q %d", b.String(), e)
		}
		if e == api.OK {
			right++
			p, _ := Print(v)
			if w, _ := Parse(p); !Same(v, w) {
				t.Fatalf("%q %q", b.String(), p)
			}
		}
	}
	if right < 1000 {
		t.Error(right)
	}
}

// P5.2
func TestRight(t *testing.T) {
	names := func(n ...string) api.Value {
		return api.Value{Kind: api.VObject, Names: n, Items: make([]api.Value, 1)}
	}
	for i, v := range []api.Value{
		{Kind: -1}, {Kind: 7}, {Text: "a"}, {Names: []string{""}}, {Items: make([]api.Value, 1)}, {Kind: api.VTrue, Text: "true"}, {Kind: api.VFalse, Items: make([]api.Value, 1)},
		number(""), number("01"), number("1 "), number("-"), number("1."), number("a"), {Kind: api.VNumber, Text: "1", Names: []string{"a"}}, {Kind: api.VNumber, Text: "1", Items: make([]api.Value, 1)},
		str("\xff"), {Kind: api.VString, Names: []string{"a"}}, {Kind: api.VString, Items: make([]api.Value, 1)},
		{Kind: api.VArray, Text: "a"}, {Kind: api.VArray, Names: []string{"a"}, Items: make([]api.Value, 1)}, array(str("\xff")), array(api.Value{Kind: 9}),
		{Kind: api.VObject, Text: "a"}, names(), names("a", "b"), names("\xff"), {Kind: api.VObject, Names: []string{"a"}}, nest(65, str("")), nest(64, array()), nest(200, str("")),
	} {
		if b, e := Print(v); Right(v) || len(b) != 0 || e != api.ErrJSON {
			t.Error(i, Right(v), e)
		}
	}
	for i, v := range []api.Value{{}, {Names: []string{}, Items: []api.Value{}}, number("-0.0e-0"), str("\x00"), array(), names("a"), nest(64, str("")), nest(63, array())} {
		if _, e := Print(v); !Right(v) || e != api.OK {
			t.Error(i)
		}
	}
}

// P5.2: the bytes' number.
func TestPrintLarge(t *testing.T) {
	if b, e := Print(str(strings.Repeat("a", api.MaxBody-2))); len(b) != api.MaxBody || e != api.OK {
		t.Error(len(b), e)
	}
	if b, e := Print(str(strings.Repeat("a", api.MaxBody-1))); len(b) != 0 || e != api.ErrLarge {
		t.Error(len(b), e)
	}
	if b, e := Print(str(strings.Repeat("\x01", 20000))); len(b) != 0 || e != api.ErrLarge {
		t.Error(len(b), e)
	}
	if b, e := Print(str("\x01/\x0b\x1f\b\f\n\r\t\"\\é\u2028")); string(b) != `"\u0001/\u000b\u001f\b\f\n\r\t\"\\é`+"\u2028\"" || e != api.OK {
		t.Errorf("%q %d", b, e)
	}
	if b, e := Print(api.Value{Kind: api.VObject, Names: []string{"\n\""}, Items: []api.Value{{}}}); string(b) != `{"\n\"":null}` || e != api.OK {
		t.Errorf("%q %d", b, e)
	}
}

// P5.3
func TestGet(t *testing.T) {
	v, _ := Parse([]byte(`{"a":1,"b":2,"a":[3]}`))
	if x, ok := Get(v, "a"); !ok || !Same(x, array(number("3"))) {
		t.Error(x, ok)
	}
	for _, x := range []api.Value{{}, array(number("1")), {Kind: api.VString, Names: []string{"a"}, Items: []api.Value{{}}}, {Kind: api.VObject, Names: []string{"a"}}} {
		if y, ok := Get(x, "a"); ok || !Same(y, api.Value{}) {
			t.Error(x, y)
		}
	}
	odd := api.Value{Kind: api.VObject, Text: "junk", Names: []string{"a", "b", "a"}, Items: []api.Value{number("1"), number("2")}}
	if x, ok := Get(odd, "a"); !ok || x.Text != "1" {
		t.Error(x, ok)
	}
	if x, ok := Get(api.Value{Kind: api.VObject, Names: []string{"a"}, Items: []api.Value{str("x"), str("y")}}, "a"); !ok || x.Text != "x" {
		t.Error(x, ok)
	}
	if _, ok := Get(v, "c"); ok {
		t.Error("c")
	}
}

// P5.3
func TestInt(t *testing.T) {
	for s, want := range map[string]int{"0": 0, "-0": 0, "7": 7, "-12": -12, "9007199254740992": 1 << 53, "-9007199254740992": -1 << 53} {
		if n, ok := Int(number(s)); !ok || n != want {
			t.Error(s, n, ok)
		}
	}
	for _, s := range []string{"", "-", "--1", "01", "-01", "1.0", "1e0", "1E1", "a", "+1", " 1", "9007199254740993", "-9007199254740993", "99999999999999999999", "9999999999999999", "00"} {
		if n, ok := Int(number(s)); ok || n != 0 {
			t.Error(s, n)
		}
	}
	if n, ok := Int(str("1")); ok || n != 0 {
		t.Error(n)
	}
	if n, ok := Int(api.Value{Kind: api.VNumber, Text: "5", Names: []string{"a"}}); !ok || n != 5 {
		t.Error(n)
	}
}

// P5.3
func TestSame(t *testing.T) {
	all := []api.Value{{}, {Kind: 1}, {Text: "a"}, {Names: []string{"a"}}, {Names: []string{"b"}}, {Names: []string{"a", "a"}}, {Items: make([]api.Value, 1)}, {Items: make([]api.Value, 2)}, array(str("a")), array(str("b")), array(array(str("a")))}
	for i, a := range all {
		for k, b := range all {
			if Same(a, b) != (i == k) {
				t.Error(i, k)
			}
		}
	}
	if !Same(api.Value{}, api.Value{Names: []string{}, Items: []api.Value{}}) {
		t.Error("empty lists")
	}
}

// P5.4
func TestMemory(t *testing.T) {
	in := []byte(`{"a":["b"]}`)
	v, _ := Parse(in)
	copy(in, "zzzzzzzzz")
	x, _ := Get(v, "a")
	x.Items[0].Text = "q"
	if b, _ := Print(v); string(b) != `{"a":["b"]}` || string(in) != "zzzzzzzzz]}" {
		t.Errorf("%q", b)
	}
}
