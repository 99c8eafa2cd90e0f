package utf

import (
	"slices"
	"strings"
	"testing"
	"unicode/utf16"
	"unicode/utf8"

	"parlance/api"
)

func samples() []string {
	return []string{"", "a", "\x00", "é€😀", "a😀b\nc", "\u07ff\u0800\ud7ff\ue000\uffff\U00010000\U0010ffff\x7f\u0080", strings.Repeat("😀é", 50), "\ufffd"}
}

func broken() []string {
	return []string{"\xff", "a\xff", "\xc0\x80", "\xc1\xbf", "\xe0\x80\x80", "\xe0\x9f\xbf", "\xf0\x80\x80\x80", "\xf0\x8f\xbf\xbf", "\xed\xa0\x80", "\xed\xbf\xbf", "\xf4\x90\x80\x80", "\xf5\x80\x80\x80", "\xe2\x82", "\xf0\x9f\x98", "\x80", "é\x80", "\xc3", "\xf8\x88\x80\x80\x80"}
}

// P4.1
func TestValid(t *testing.T) {
	for _, s := range samples() {
		if n := Valid([]byte(s)); n != len(s) {
			t.Errorf("%q %d", s, n)
		}
		for _, b := range broken() {
			want := len(s)
			for utf8.ValidString((s + b)[:want]) && want < len(s+b) {
				_, n := utf8.DecodeRuneInString((s + b)[want:])
				if n == 1 && (s + b)[want] >= 128 {
					break
				}
				want += n
			}
			if n := Valid([]byte(s + b + "a")); n != want {
				t.Errorf("%q %d %d", s+b, n, want)
			}
		}
	}
	if Valid(nil) != 0 || Valid([]byte{97, 255}) != 1 {
		t.Error("valid")
	}
}

// P4.2
func TestRunes(t *testing.T) {
	for _, s := range samples() {
		var want, wantUnits []int
		for _, r := range s {
			want = append(want, int(r))
		}
		for _, u := range utf16.Encode([]rune(s)) {
			wantUnits = append(wantUnits, int(u))
		}
		got, e := Runes(s)
		if !slices.Equal(got, want) || e != api.OK {
			t.Errorf("%q %v %d", s, got, e)
		}
		if back, e := Text(got...); back != s || e != api.OK {
			t.Errorf("%q %q %d", s, back, e)
		}
		units, e := Units(s)
		if !slices.Equal(units, wantUnits) || e != api.OK {
			t.Errorf("%q %v %d", s, units, e)
		}
		if back, e := Join(units...); !slices.Equal(back, want) || e != api.OK {
			t.Errorf("%q %v %d", s, back, e)
		}
	}
	for _, s := range broken() {
		if got, e := Runes("a" + s + "b"); len(got) != 0 || e != api.ErrUtf {
			t.Errorf("%q %v %d", s, got, e)
		}
		if got, e := Units("a" + s); len(got) != 0 || e != api.ErrUtf {
			t.Errorf("%q %v %d", s, got, e)
		}
	}
}

// P4.2: numbers that aren't runes, or not a text's units.
func TestNumbers(t *testing.T) {
	for _, r := range []int{-1, 55296, 57343, 1114112, 1 << 32, 1<<32 + 97, -1 << 63, 1<<63 - 1} {
		if s, e := Text(97, r, 98); s != "" || e != api.ErrUtf {
			t.Error(r, s, e)
		}
	}
	for _, list := range [][]int{{-1}, {65536}, {55296}, {56319, 97}, {56320}, {57343, 55296}, {97, 55357}, {55357, 55357, 56832}, {55357, 56832, 56832}, {55296, 57344}, {1 << 40}, {55357, 56832 + 1<<32}, {128512}} {
		if s, e := Join(list...); len(s) != 0 || e != api.ErrUtf {
			t.Error(list, s, e)
		}
	}
	if got, e := Join(55296, 56320, 56319, 57343, 55295, 57344, 65535); e != api.OK || !slices.Equal(got, []int{65536, 1114111, 55295, 57344, 65535}) {
		t.Error(got, e)
	}
	if u, _ := Units("😀"); !slices.Equal(u, []int{55357, 56832}) {
		t.Error(u)
	}
	if s, e := Text(); s != "" || e != api.OK {
		t.Error(s, e)
	}
}

// P4.3
func TestPlaces(t *testing.T) {
	for _, s := range samples() {
		offsets, units := map[int]int{}, map[int]int{} // one more than the answer
		u := 0
		for o, r := range s + "." {
			offsets[u], units[o] = o+1, u+1
			u += len(utf16.Encode([]rune{r}))
		}
		for i := -2; i < len(s)+3; i++ {
			if o, e := Offset(s, i); offsets[i] > 0 && (o != offsets[i]-1 || e != api.OK) || offsets[i] == 0 && (o != 0 || e != api.ErrPlace) {
				t.Errorf("%q at %d: %d %d", s, i, o, e)
			}
			if u, e := Unit(s, i); units[i] > 0 && (u != units[i]-1 || e != api.OK) || units[i] == 0 && (u != 0 || e != api.ErrPlace) {
				t.Errorf("%q at %d: %d %d", s, i, u, e)
			}
		}
	}
	if o, e := Offset("a😀", 3); o != 5 || e != api.OK {
		t.Error(o, e)
	}
	if o, e := Offset("a😀", 2); o != 0 || e != api.ErrPlace {
		t.Error(o, e)
	}
	for _, s := range broken() {
		if o, e := Offset("a"+s, -1); o != 0 || e != api.ErrUtf {
			t.Errorf("%q %d %d", s, o, e)
		}
		if o, e := Unit("a"+s, 0); o != 0 || e != api.ErrUtf {
			t.Errorf("%q %d %d", s, o, e)
		}
	}
}

// P4.4
func TestMemory(t *testing.T) {
	b := []byte("a\xff")
	list := []int{97, 98}
	Valid(b)
	Text(list...)
	got, _ := Join(list...)
	got[0] = 1
	if string(b) != "a\xff" || list[0] != 97 || list[1] != 98 {
		t.Error(b, list)
	}
}
