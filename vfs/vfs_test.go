package vfs

import (
	"slices"
	"strings"
	"testing"

	"parlance/api"
)

func wantBytes(t *testing.T, f *FS, name, want string) {
	t.Helper()
	if b, e := f.Read(name); string(b) != want || e != api.OK {
		t.Errorf("%s: %q %d, want %q", name, b, e, want)
	}
}

func wantErr(t *testing.T, got, want api.Errno) {
	t.Helper()
	if got != want {
		t.Errorf("answered %d, want %d", got, want)
	}
}

// P1.1
func TestNames(t *testing.T) {
	f := New(-1)
	for _, name := range []string{"a", "log", "0", ".", "-", "a.b-9", strings.Repeat("z", 32)} {
		wantErr(t, f.Append(name), api.OK)
	}
	for _, name := range []string{"", "A", "a b", "/", "_", "é", "\x00", strings.Repeat("z", 33), "`", "{", ":"} {
		wantErr(t, f.Append(name), api.ErrName)
		wantErr(t, f.Truncate(name, 0), api.ErrName)
		wantErr(t, f.Rename(name, "a"), api.ErrName)
		wantErr(t, f.Rename("a", name), api.ErrName)
		wantErr(t, f.Rename("none", name), api.ErrName)
		wantErr(t, f.Remove(name), api.ErrName)
		wantErr(t, f.Sync(name), api.ErrName)
		if b, e := f.Read(name); len(b) != 0 || e != api.ErrName {
			t.Error(b, e)
		}
	}
	wantErr(t, f.Truncate("none", -1), api.ErrNone)
	wantErr(t, f.Rename("none", "none"), api.ErrNone)
	wantErr(t, f.Remove("none"), api.ErrNone)
	wantErr(t, f.Sync("none"), api.ErrNone)
	if b, e := f.Read("none"); len(b) != 0 || e != api.ErrNone {
		t.Error(b, e)
	}
}

// P1.1: only calls that would do something take power, and without it nothing is done.
func TestPower(t *testing.T) {
	f := New(3)
	wantErr(t, f.Append("A"), api.ErrName)
	wantErr(t, f.Sync("x"), api.ErrNone)
	wantErr(t, f.Append("x", []byte("abc")), api.OK)
	wantErr(t, f.Truncate("x", 4), api.ErrRange)
	wantErr(t, f.Rename("x", "x"), api.OK)
	wantErr(t, f.Append("x"), api.OK)
	wantErr(t, f.Append("x", []byte("d")), api.ErrDown)
	wantErr(t, f.Append("y"), api.ErrDown)
	wantErr(t, f.Append("Y"), api.ErrName)
	wantErr(t, f.Truncate("x", 0), api.ErrDown)
	wantErr(t, f.Truncate("x", 4), api.ErrRange)
	wantErr(t, f.Truncate("y", 4), api.ErrNone)
	wantErr(t, f.Rename("x", "y"), api.ErrDown)
	wantErr(t, f.Remove("x"), api.ErrDown)
	wantErr(t, f.Sync("x"), api.ErrDown)
	wantBytes(t, f, "x", "abc")
	if n := f.Names(); !slices.Equal(n, []string{"x"}) {
		t.Error(n)
	}
	wantErr(t, New(0).Append("x"), api.ErrDown)
	g := New(-7)
	for range 100 {
		wantErr(t, g.Append("x", []byte("a")), api.OK)
	}
}

// P1.2
func TestFiles(t *testing.T) {
	f := New(-1)
	f.Append("b", []byte("ab"), nil, []byte(""), []byte("c"))
	f.Append("b", []byte("d"))
	f.Append("a")
	f.Append("c")
	wantBytes(t, f, "b", "abcd")
	wantBytes(t, f, "a", "")
	if n := f.Names(); !slices.Equal(n, []string{"a", "b", "c"}) {
		t.Error(n)
	}
	f.Truncate("b", 4)
	wantBytes(t, f, "b", "abcd")
	f.Truncate("b", 2)
	wantBytes(t, f, "b", "ab")
	f.Append("b", []byte("x"))
	wantBytes(t, f, "b", "abx")
	f.Rename("b", "a")
	wantBytes(t, f, "a", "abx")
	f.Remove("c")
	if n := f.Names(); !slices.Equal(n, []string{"a"}) {
		t.Error(n)
	}
	f.Truncate("a", 0)
	wantBytes(t, f, "a", "")
	f.Remove("a")
	if n := f.Names(); len(n) != 0 {
		t.Error(n)
	}
}

// P1.2: a rename takes what is safe along, and a truncation leaves it.
func TestSafe(t *testing.T) {
	f := New(-1)
	f.Append("a", []byte("abc"))
	f.Sync("a")
	f.Append("a", []byte("de"))
	f.Append("b", []byte("12345"))
	f.Sync("b")
	f.Rename("a", "b")
	wantBytes(t, f.Crash(nil, -1), "b", "abc")
	f.Truncate("b", 4)
	wantBytes(t, f.Crash(nil, -1), "b", "abc")
	f.Truncate("b", 1)
	f.Append("b", []byte("xy"))
	wantBytes(t, f.Crash(nil, -1), "b", "a")
	f.Rename("b", "b")
	wantBytes(t, f.Crash(nil, -1), "b", "a")
	f.Sync("b")
	wantBytes(t, f.Crash(nil, -1), "b", "axy")
	f.Remove("b")
	f.Append("b", []byte("z"))
	wantBytes(t, f.Crash(nil, -1), "b", "")
}

// P1.3
func TestCrash(t *testing.T) {
	f := New(-1)
	for _, name := range []string{"c", "a", "d", "b"} {
		f.Append(name, []byte(name))
		f.Sync(name)
		f.Append(name, []byte("123"))
	}
	g := f.Crash([]int{1, -5, 1 << 62}, 1)
	wantBytes(t, g, "a", "a1")
	wantBytes(t, g, "b", "b")
	wantBytes(t, g, "c", "c123")
	wantBytes(t, g, "d", "d1")
	wantBytes(t, f, "a", "a123")
	h := g.Crash(nil, -1)
	wantBytes(t, h, "c", "c123")
	wantErr(t, g.Append("a", []byte("x")), api.OK)
	wantErr(t, g.Append("a", []byte("x")), api.ErrDown)
	wantBytes(t, f.Crash([]int{}, -1), "d", "d")
	wantBytes(t, f.Crash([]int{-1 << 63}, -1), "d", "d")
	if n := New(-1).Crash([]int{3}, -1).Names(); len(n) != 0 {
		t.Error(n)
	}
}

// P1.3: each file takes an element of keeps, also one without loose bytes.
func TestCrashTurns(t *testing.T) {
	f := New(-1)
	f.Append("a", []byte("aa"))
	f.Sync("a")
	f.Append("b", []byte("bb"))
	f.Append("c")
	f.Append("d", []byte("dd"))
	g := f.Crash([]int{2, 1, 2, 0}, -1)
	wantBytes(t, g, "a", "aa")
	wantBytes(t, g, "b", "b")
	wantBytes(t, g, "d", "")
}

// P1.4
func TestMemory(t *testing.T) {
	f := New(-1)
	part := []byte("abc")
	f.Append("a", part[:2])
	part[0] = 'x'
	f.Append("a", []byte("d"))
	if string(part) != "xbc" {
		t.Error(part)
	}
	got, _ := f.Read("a")
	got[0] = 'y'
	_ = append(got, "zzzz"...)
	f.Append("a", []byte("e"))
	wantBytes(t, f, "a", "abde")
	names := f.Names()
	names[0] = "q"
	g := f.Crash([]int{9}, -1)
	g.Append("a", []byte("1"))
	f.Append("a", []byte("2"))
	wantBytes(t, g, "a", "abde1")
	wantBytes(t, f, "a", "abde2")
	keeps := []int{1}
	f.Crash(keeps, 1)
	if keeps[0] != 1 {
		t.Error(keeps)
	}
}
