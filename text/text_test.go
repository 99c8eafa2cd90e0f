package text

import (
	"math/rand"
	"strings"
	"testing"
	"unicode/utf16"

	"parlance/api"
)

// P7.1
func TestLines(t *testing.T) {
	for s, want := range map[string]int{"": 1, "a": 1, "\n": 2, "a\nb\n": 3, "a\r\nb": 2, "\xff\n": 2} {
		if Lines(s) != want {
			t.Errorf("%q %d", s, Lines(s))
		}
	}
}

// P7.1: all places of texts, both ways.
func TestPlaces(t *testing.T) {
	for _, s := range []string{"", "\n", "a\n😀b", "é\r\n\n€x\n", "abc", "😀😀\n😀"} {
		places := map[[2]int]int{}
		line, char := 0, 0
		for o, r := range s + "." {
			places[[2]int{line, char}] = o + 1
			if l, c, e := Place(s, o); l != line || c != char || e != api.OK {
				t.Errorf("%q at %d: %d %d %d", s, o, l, c, e)
			}
			char += len(utf16.Encode([]rune{r}))
			if r == '\n' {
				line, char = line+1, 0
			}
		}
		for l := -1; l < 6; l++ {
			for c := -1; c < 8; c++ {
				o, e := Offset(s, l, c)
				if want := places[[2]int{l, c}]; want > 0 && (o != want-1 || e != api.OK) || want == 0 && (o != 0 || e != api.ErrPlace) {
					t.Errorf("%q %d %d: %d %d", s, l, c, o, e)
				}
			}
		}
		for _, o := range []int{-1, -1 << 63, len(s) + 1, 1<<63 - 1} {
			if l, c, e := Place(s, o); l != 0 || c != 0 || e != api.ErrPlace {
				t.Error(o, l, c, e)
			}
		}
	}
	if l, c, e := Place("a\n😀b", 4); l != 0 || c != 0 || e != api.ErrPlace {
		t.Error(l, c, e)
	}
	if l, c, e := Place("a\n😀b", 6); l != 1 || c != 2 || e != api.OK {
		t.Error(l, c, e)
	}
	if o, e := Offset("a\n😀b", 1, 2); o != 6 || e != api.OK {
		t.Error(o, e)
	}
	if o, e := Offset("a\xff", -1, 0); o != 0 || e != api.ErrUtf {
		t.Error(o, e)
	}
	if o, e := Offset("a\n\xff", 0, 0); o != 0 || e != api.ErrUtf {
		t.Error(o, e)
	}
	if l, c, e := Place("ab\n\xff", -1); l != 0 || c != 0 || e != api.ErrUtf {
		t.Error(l, c, e)
	}
}

// P7.2
func TestApply(t *testing.T) {
	long := strings.Repeat("x", api.MaxText)
	for i, c := range []struct {
		s     string
		edits []api.Edit
		want  string
		e     api.Errno
	}{
		{"ab\ncd", []api.Edit{{Line: 0, Char: 1, EndLine: 1, EndChar: 1, Text: "X"}}, "aXd", api.OK},
		{"ab", []api.Edit{{Line: 0, Char: 2, EndLine: 0, EndChar: 2, Text: "\n"}, {Line: 1, Char: 0, EndLine: 1, EndChar: 0, Text: "😀"}, {Line: 1, Char: 2, EndLine: 1, EndChar: 2, Text: "!"}, {Line: 0, Char: 0, EndLine: 0, EndChar: 1, Text: ""}}, "b\n😀!", api.OK},
		{"", []api.Edit{{}}, "", api.OK},
		{long + "y", nil, long + "y", api.OK},
		{long + "y", []api.Edit{{Line: 0, Char: 0, EndLine: 0, EndChar: 1, Text: ""}}, long[1:] + "y", api.OK},
		{long + "yz", []api.Edit{{Line: 0, Char: 0, EndLine: 0, EndChar: 1, Text: ""}, {Line: 0, Char: 0, EndLine: 0, EndChar: 1, Text: ""}}, "", api.ErrLarge},
		{long, []api.Edit{{Line: 0, Char: 0, EndLine: 0, EndChar: 0, Text: "y"}}, "", api.ErrLarge},
		{long, []api.Edit{{Line: 0, Char: 0, EndLine: 0, EndChar: 1, Text: "y"}}, "y" + long[1:], api.OK},
		{"\xff", nil, "", api.ErrUtf},
		{"a", []api.Edit{{Line: 5, Char: 5, EndLine: 5, EndChar: 5, Text: "\xff"}}, "", api.ErrUtf},
		{"a", []api.Edit{{Line: 0, Char: 1, EndLine: 0, EndChar: 2, Text: ""}}, "", api.ErrPlace},
		{"a", []api.Edit{{Line: 0, Char: 2, EndLine: 0, EndChar: 1, Text: ""}}, "", api.ErrPlace},
		{"a", []api.Edit{{Line: 0, Char: 1, EndLine: 1, EndChar: 0, Text: ""}}, "", api.ErrPlace},
		{"a", []api.Edit{{Line: -1, Char: 0, EndLine: 0, EndChar: 0, Text: ""}}, "", api.ErrPlace},
		{"😀", []api.Edit{{Line: 0, Char: 0, EndLine: 0, EndChar: 1, Text: ""}}, "", api.ErrPlace},
		{"ab", []api.Edit{{Line: 0, Char: 1, EndLine: 0, EndChar: 0, Text: long + "z"}}, "", api.ErrEdit},
		{"a\nb", []api.Edit{{Line: 1, Char: 0, EndLine: 0, EndChar: 1, Text: ""}}, "", api.ErrEdit},
		{"ab", []api.Edit{{Line: 0, Char: 0, EndLine: 0, EndChar: 1, Text: "c"}, {Line: 0, Char: 9, EndLine: 0, EndChar: 9, Text: ""}}, "", api.ErrPlace},
	} {
		if got, e := Apply(c.s, c.edits...); got != c.want || e != c.e {
			t.Errorf("%d: %.40q %d", i, got, e)
		}
	}
}

// P7.3
func TestBetween(t *testing.T) {
	for _, c := range []struct {
		s, t string
		want api.Edit
	}{
		{"let x", "let yx", api.Edit{Line: 0, Char: 4, EndLine: 0, EndChar: 4, Text: "y"}},
		{"", "", api.Edit{}},
		{"a", "a", api.Edit{Char: 1, EndChar: 1}},
		{"aa", "aaa", api.Edit{Char: 2, EndChar: 2, Text: "a"}},
		{"aaa", "aa", api.Edit{Char: 2, EndChar: 3}},
		{"é", "è", api.Edit{EndChar: 1, Text: "è"}},
		{"xé", "xé\u0301", api.Edit{Char: 2, EndChar: 2, Text: "\u0301"}},
		{"©", "é", api.Edit{EndChar: 1, Text: "é"}},
		{"a😀b", "a😁b", api.Edit{Char: 1, EndChar: 3, Text: "😁"}},
		{"a\nb\nc", "a\nc", api.Edit{Line: 1, Char: 0, EndLine: 2, EndChar: 0}},
		{"\u00e9\u0101", "\u00e9\u0141\u0101", api.Edit{Char: 1, EndChar: 1, Text: "\u0141"}},
	} {
		if got, e := Between(c.s, c.t); got != c.want || e != api.OK {
			t.Errorf("%q %q: %v %d", c.s, c.t, got, e)
		}
	}
	for _, c := range [][2]string{{"\xff", "a"}, {"a", "\xff"}} {
		if got, e := Between(c[0], c[1]); got != (api.Edit{}) || e != api.ErrUtf {
			t.Error(got, e)
		}
	}
}

// P7.3 against runes that are counted one by one, and P7.2 makes the other text.
func TestBetweenAny(t *testing.T) {
	r := rand.New(rand.NewSource(1))
	letters := []rune("a\né©€₤😀😁𐀀\u0101\u0141")
	random := func() string {
		out := make([]rune, r.Intn(7))
		for i := range out {
			out[i] = letters[r.Intn(len(letters))]
		}
		return string(out)
	}
	for range 50000 {
		s, u := random(), random()
		x, e := Between(s, u)
		if back, f := Apply(s, x); e != api.OK || f != api.OK || back != u {
			t.Fatalf("%q %q %v", s, u, x)
		}
		a, b := []rune(s), []rune(u)
		front, end := 0, 0
		for front < len(a) && front < len(b) && a[front] == b[front] {
			front++
		}
		for end < len(a)-front && end < len(b)-front && a[len(a)-1-end] == b[len(b)-1-end] {
			end++
		}
		line, char, _ := Place(s, len(string(a[:front])))
		endLine, endChar, _ := Place(s, len(string(a[:len(a)-end])))
		if want := (api.Edit{Line: line, Char: char, EndLine: endLine, EndChar: endChar, Text: string(b[front : len(b)-end])}); x != want {
			t.Fatalf("%q %q %v %v", s, u, x, want)
		}
	}
}
