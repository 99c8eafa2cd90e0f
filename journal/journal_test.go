package journal

import (
	"bytes"
	"hash/crc32"
	"slices"
	"strings"
	"testing"

	"parlance/api"
	"parlance/vfs"
)

func open(t *testing.T, f *vfs.FS) *Journal {
	t.Helper()
	j, e := Open(f)
	if e != api.OK || j == nil {
		t.Fatalf("open: %d", e)
	}
	return j
}

func wantRecords(t *testing.T, j *Journal, log int, want ...string) {
	t.Helper()
	var got []string
	for _, b := range j.Records() {
		got = append(got, string(b))
	}
	if !slices.Equal(got, want) || j.Log() != log {
		t.Errorf("%q %d, want %q %d", got, j.Log(), want, log)
	}
}

func wantErr(t *testing.T, got, want api.Errno) {
	t.Helper()
	if got != want {
		t.Errorf("answered %d, want %d", got, want)
	}
}

func build(generation uint32, payload string) string {
	return string(head(generation, []byte(payload))) + payload
}

// P2.1
func TestSum(t *testing.T) {
	if n := Sum([]byte("123456789")); n != 3421780262 {
		t.Error(n)
	}
	if n := Sum([]byte("12"), nil, []byte("3456"), []byte("789")); n != 3421780262 {
		t.Error(n)
	}
	if Sum() != 0 || Sum(nil, nil) != 0 {
		t.Error("empty")
	}
	all := make([]byte, 3000)
	for i := range all {
		all[i] = byte(i * 7)
		if Sum(all[:i]) != crc32.ChecksumIEEE(all[:i]) {
			t.Fatal(i)
		}
	}
}

// P2.3 and the files' bytes
func TestBytes(t *testing.T) {
	f := vfs.New(-1)
	j := open(t, f)
	wantErr(t, j.Append([]byte("ab")), api.OK)
	got, _ := f.Read("log")
	front := []byte{0, 0, 0, 0, 0, 0, 0, 2}
	sum := crc32.ChecksumIEEE(append(slices.Clone(front), 'a', 'b'))
	want := append(front, byte(sum>>24), byte(sum>>16), byte(sum>>8), byte(sum), 'a', 'b')
	if !bytes.Equal(got, want) {
		t.Errorf("%v %v", got, want)
	}
	wantErr(t, j.Lay([]byte("x"), nil), api.OK)
	if n := f.Names(); !slices.Equal(n, []string{"base", "log"}) {
		t.Error(n)
	}
	got, _ = f.Read("base")
	if string(got) != build(1, "\x00\x00\x00\x02")+build(1, "x")+build(1, "") {
		t.Error(got)
	}
	if b, _ := f.Read("log"); len(b) != 0 {
		t.Error(b)
	}
	j.Append([]byte("y"))
	if b, _ := f.Read("log"); string(b) != build(1, "y") {
		t.Error(b)
	}
	if b, _ := f.Crash(nil, -1).Read("base"); string(b) != string(got) {
		t.Error("base isn't safe")
	}
}

// P2.3
func TestAppend(t *testing.T) {
	f := vfs.New(3)
	j := open(t, f)
	wantErr(t, j.Sync(), api.OK) // no file: no call
	wantErr(t, j.Append(make([]byte, api.MaxRecord+1)), api.ErrLong)
	wantErr(t, j.Append(make([]byte, api.MaxRecord)), api.OK)
	wantErr(t, j.Append(nil), api.OK)
	wantErr(t, j.Sync(), api.OK)
	wantErr(t, j.Append([]byte("z")), api.ErrDown)
	wantErr(t, j.Append(make([]byte, api.MaxRecord+1)), api.ErrLong)
	wantErr(t, j.Sync(), api.ErrDown)
	wantRecords(t, j, 2, string(make([]byte, api.MaxRecord)), "")
	wantRecords(t, open(t, f.Crash(nil, 0)), 2, string(make([]byte, api.MaxRecord)), "")
}

// P2.2: a log is cut where its frames end.
func TestTorn(t *testing.T) {
	good := build(0, "a") + build(0, "")
	bad := []byte(build(0, "b"))
	bad[12] ^= 1
	long := build(0, strings.Repeat("l", api.MaxRecord+1))
	for _, rest := range []string{"x", build(0, "b")[:12], build(0, "bc")[:13], build(1, "b"), string(bad) + build(0, "c"), long, "\xff\xff\xff\xff\xff\xff\xff\xff\xff\xff\xff\xff\xff"} {
		f := vfs.New(-1)
		f.Append("log", []byte(good+rest))
		j := open(t, f)
		wantRecords(t, j, 2, "a", "")
		if b, _ := f.Read("log"); string(b) != good {
			t.Errorf("%q", b)
		}
		j.Append([]byte("n"))
		wantRecords(t, open(t, f), 3, "a", "", "n")
	}
	f := vfs.New(2)
	f.Append("log", []byte(good+"x"))
	f.Sync("log")
	if j, e := Open(f); j != nil || e != api.ErrDown {
		t.Error(j, e)
	}
	f = vfs.New(1)
	f.Append("log", []byte(good))
	wantRecords(t, open(t, f), 2, "a", "")
}

// P2.2: a base that is just such frames, and others.
func TestBase(t *testing.T) {
	count := func(n byte) string { return "\x00\x00\x00" + string([]byte{n}) }
	for base, want := range map[string][]string{
		build(7, count(0)):                                    {},
		build(7, count(1)) + build(7, "a"):                    {"a"},
		build(7, count(2)) + build(7, "a") + build(7, "1234"): {"a", "1234"},
	} {
		f := vfs.New(-1)
		f.Append("base", []byte(base))
		f.Append("log", []byte(build(7, "l")+build(6, "m")))
		wantRecords(t, open(t, f), 1, append(want, "l")...)
	}
	for i, base := range []string{
		"", "x", build(7, ""), build(7, "abc"), build(7, "\x00\x00\x00\x00\x00"), build(7, count(1)),
		build(7, count(0)) + build(7, "a"), build(7, count(1)) + build(8, "a"), build(7, count(1)) + build(7, "a") + "z",
		build(7, count(1)) + build(7, "ab")[:13], build(7, count(1)) + build(7, strings.Repeat("l", api.MaxRecord+1)), build(7, "\xff\xff\xff\xff"),
	} {
		f := vfs.New(2)
		f.Append("base", []byte(base))
		f.Append("next", []byte("n"))
		f = f.Crash([]int{1 << 20}, -1)
		if j, e := Open(f); j != nil || e != api.ErrRecord {
			t.Error(i, e)
		}
		if n := f.Names(); !slices.Equal(n, []string{"base"}) {
			t.Error(i, n)
		}
	}
}

// P2.2: the first thing is that "next" goes.
func TestNext(t *testing.T) {
	f := vfs.New(2)
	f.Append("next", []byte(build(1, "\x00\x00\x00\x00")))
	f.Append("base", []byte("bad"))
	if j, e := Open(f); j != nil || e != api.ErrDown {
		t.Error(j, e)
	}
	g := vfs.New(2)
	g.Append("next")
	wantRecords(t, open(t, g), 0)
	if n := g.Names(); len(n) != 0 {
		t.Error(n)
	}
}

// P2.4
func TestLay(t *testing.T) {
	f := vfs.New(-1)
	j := open(t, f)
	j.Append([]byte("a"))
	wantErr(t, j.Lay([]byte("x"), make([]byte, api.MaxRecord+1)), api.ErrLong)
	wantRecords(t, j, 1, "a")
	wantErr(t, j.Lay([]byte("x"), make([]byte, 0)), api.OK)
	wantRecords(t, j, 0, "x", "")
	j.Append([]byte("y"))
	wantRecords(t, j, 1, "x", "", "y")
	wantRecords(t, open(t, f), 1, "x", "", "y")
	wantErr(t, j.Lay(), api.OK)
	wantRecords(t, j, 0)
	j.Append([]byte("z"))
	wantRecords(t, open(t, f), 1, "z")
}

// P2.4: behind the greatest generation comes 0.
func TestLastGeneration(t *testing.T) {
	f := vfs.New(-1)
	f.Append("base", []byte(build(1<<32-1, "\x00\x00\x00\x00")))
	j := open(t, f)
	wantErr(t, j.Lay([]byte("x")), api.OK)
	if b, _ := f.Read("base"); string(b) != build(0, "\x00\x00\x00\x01")+build(0, "x") {
		t.Error(b)
	}
	j.Append([]byte("y"))
	wantRecords(t, open(t, f), 1, "x", "y")
}

// P2.2, P2.4: wherever the power goes, a base is laid as a whole or not at all.
func TestLayCrashes(t *testing.T) {
	for power := range 6 {
		for keep := range 60 {
			f := vfs.New(power + 2)
			j := open(t, f)
			j.Append([]byte("a"))
			j.Sync()
			e := j.Lay([]byte("x"), []byte("y"))
			if (e == api.OK) != (power >= 4) {
				t.Fatal(power, e)
			}
			k := open(t, f.Crash([]int{keep}, -1))
			if power < 3 {
				wantRecords(t, k, 1, "a")
			} else {
				wantRecords(t, k, 0, "x", "y")
			}
			k.Append([]byte("z"))
			if n := k.Log(); power >= 3 && n != 1 {
				t.Error(n)
			}
		}
	}
}

// P2.3: without a log no truncation is called.
func TestLayWithoutLog(t *testing.T) {
	f := vfs.New(3)
	j := open(t, f)
	wantErr(t, j.Lay([]byte("x")), api.OK)
	if n := f.Names(); !slices.Equal(n, []string{"base"}) {
		t.Error(n)
	}
}

// P2.6
func TestMemory(t *testing.T) {
	j := open(t, vfs.New(-1))
	a, b := []byte("abc"), []byte("def")
	j.Append(a[:2])
	a[0] = 'x'
	r := j.Records()
	r[0][0] = 'q'
	_ = append(r[0], 'z')
	wantRecords(t, j, 1, "ab")
	j.Lay(b)
	b[0] = 'x'
	j.Records()[0][1] = 'q'
	wantRecords(t, j, 0, "def")
	if string(a) != "xbc" || string(b) != "xef" {
		t.Error(a, b)
	}
}
