package index

import (
	"bytes"
	"reflect"
	"slices"
	"strconv"
	"strings"
	"testing"

	"parlance/api"
	"parlance/journal"
	"parlance/types"
	"parlance/vfs"
)

func typ(s string) api.Type {
	t, e := types.Read(s)
	if e != api.OK {
		panic(s)
	}
	return t
}

func entry(uri string, version int, names ...string) api.Entry {
	e := api.Entry{URI: uri, Version: version}
	for _, name := range names {
		e.Exports = append(e.Exports, api.Export{Name: name, Type: typ("'a -> int list")})
	}
	return e
}

func open(t *testing.T, f *vfs.FS) *Index {
	t.Helper()
	x, e := Open(f)
	if e != api.OK || x == nil {
		t.Fatal(e)
	}
	return x
}

// told: entries as one text.
func told(x *Index) string {
	var out []string
	for _, e := range x.Entries() {
		w := e.URI + strconv.Itoa(e.Version)
		for _, n := range e.Exports {
			w += n.Name
		}
		out = append(out, w)
	}
	return strings.Join(out, " ")
}

func want(t *testing.T, x *Index, entries string, log int) {
	t.Helper()
	if got := told(x); got != entries || x.Log() != log {
		t.Errorf("%s %d, want %s %d", got, x.Log(), entries, log)
	}
}

func wantErr(t *testing.T, got, want api.Errno) {
	t.Helper()
	if got != want {
		t.Errorf("answered %d, want %d", got, want)
	}
}

func wrongEntries() []api.Entry {
	return []api.Entry{{}, entry("", 1), entry(strings.Repeat("u", 65), 1), entry("a", -1), entry("a", api.MaxInt), entry("a", 1<<40), entry("a", 1, "b", "a"), entry("a", 1, "A"), {URI: "a", Exports: []api.Export{{Name: "x", Type: typ("'b")}}}}
}

// P20.2
func TestRecord(t *testing.T) {
	if b, e := Record(entry("a", 3)); !bytes.Equal(b, []byte{1, 1, 97, 0, 0, 0, 3, 0, 0}) || e != api.OK {
		t.Error(b, e)
	}
	if b, e := Record(entry("\xffb", api.MaxInt-1, "x")); string(b) != "\x01\x02\xffb\x3f\xff\xff\xff\x00\x01\x01x\x04\x02\x01\x00\x00\x00\x00\x02\x04list\x01\x02\x03int\x00" || e != api.OK {
		t.Errorf("%q %d", b, e)
	}
	for i, e := range wrongEntries() {
		if b, err := Record(e); len(b) != 0 || err != api.ErrRecord {
			t.Error(i, err)
		}
		if err := open(t, vfs.New(-1)).Publish(e); err != api.ErrRecord {
			t.Error(i, err)
		}
	}
}

// P20.2, P20.3
func TestPublish(t *testing.T) {
	f := vfs.New(-1)
	x := open(t, f)
	want(t, x, "", 0)
	wantErr(t, x.Publish(entry("b", 2, "x")), api.OK)
	wantErr(t, x.Publish(entry("a", 9)), api.OK)
	wantErr(t, x.Publish(entry("b", 1, "y", "z")), api.OK)
	want(t, x, "a9 b1yz", 3)
	wantErr(t, x.Remove("c"), api.ErrUnknown)
	wantErr(t, x.Remove(""), api.ErrUnknown)
	wantErr(t, x.Remove("a"), api.OK)
	wantErr(t, x.Remove("a"), api.ErrUnknown)
	want(t, x, "b1yz", 4)
	if e, ok := x.Find("b"); !ok || !reflect.DeepEqual(e, entry("b", 1, "y", "z")) {
		t.Error(e, ok)
	}
	if e, ok := x.Find("a"); ok || !reflect.DeepEqual(e, api.Entry{}) {
		t.Error(e, ok)
	}
	want(t, open(t, f), "b1yz", 4)
	if b, _ := f.Read("log"); !bytes.Contains(b, []byte{2, 1, 97}) {
		t.Error(b)
	}
	wantErr(t, x.Sync(), api.OK)
	want(t, open(t, f.Crash(nil, -1)), "b1yz", 4)
	wantErr(t, x.Publish(entry("c", 0)), api.OK)
	want(t, open(t, f.Crash(nil, -1)), "b1yz", 4)
	want(t, open(t, f.Crash([]int{99}, -1)), "b1yz c0", 5)
	wantErr(t, x.Compact(), api.OK)
	want(t, x, "b1yz c0", 0)
	want(t, open(t, f.Crash(nil, -1)), "b1yz c0", 0)
	wantErr(t, x.Remove("b"), api.OK)
	want(t, open(t, f), "c0", 1)
	records := x.Records()
	if r, _ := Record(entry("b", 1, "y", "z")); len(records) != 3 || !bytes.Equal(records[0], r) {
		t.Error(records)
	}
}

// P20.2: the journal's errors change nothing.
func TestErrors(t *testing.T) {
	f := vfs.New(1)
	x := open(t, f)
	wantErr(t, x.Sync(), api.OK)
	wantErr(t, x.Publish(entry("a", 1)), api.OK)
	wantErr(t, x.Publish(entry("a", 2)), api.ErrDown)
	wantErr(t, x.Publish(entry("", 2)), api.ErrRecord)
	wantErr(t, x.Remove("a"), api.ErrDown)
	wantErr(t, x.Remove("b"), api.ErrUnknown)
	wantErr(t, x.Sync(), api.ErrDown)
	want(t, x, "a1", 1)
	wantErr(t, x.Compact(), api.ErrDown)
	big := api.Entry{URI: "b"}
	for i := range 1000 {
		big.Exports = append(big.Exports, api.Export{Name: "x" + strconv.Itoa(1000+i) + strings.Repeat("n", 100), Type: typ("int")})
	}
	y := open(t, vfs.New(-1))
	wantErr(t, y.Publish(big), api.ErrLong)
	if b, e := Record(big); len(b) < api.MaxRecord || e != api.OK {
		t.Error(len(b), e)
	}
	want(t, y, "", 0)
}

// P20.1
func TestOpen(t *testing.T) {
	good, _ := Record(entry("a", 1, "x"))
	far, _ := Record(entry("a", 1))
	far = slices.Clone(far)
	far[3] = 64
	for i, b := range [][]byte{nil, {0}, {1}, {2}, {3, 1, 97}, {2, 0}, {2, 1}, {2, 1, 97, 0}, append([]byte{2, 65}, make([]byte, 65)...), {1, 1, 97}, {1, 1, 97, 0, 0, 0}, {1, 1, 97, 0, 0, 0, 0}, {1, 0, 0, 0, 0, 0, 0, 0}, good[:len(good)-1], append(slices.Clone(good), 0), far, append(append([]byte{1, 65}, make([]byte, 65)...), 0, 0, 0, 0, 0, 0)} {
		f := vfs.New(-1)
		j, _ := journal.Open(f)
		j.Append(good)
		j.Append(b)
		if x, e := Open(f); x != nil || e != api.ErrRecord {
			t.Error(i, e)
		}
	}
	f := vfs.New(-1)
	j, _ := journal.Open(f)
	j.Append([]byte{2, 1, 98})
	j.Append(good)
	j.Append(append([]byte{2, 64}, make([]byte, 64)...))
	want(t, open(t, f), "a1x", 3)
	j.Append([]byte{2, 1, 97})
	want(t, open(t, f), "", 4)
	f.Append("base")
	if x, e := Open(f); x != nil || e != api.ErrRecord {
		t.Error(e)
	}
	g := vfs.New(1)
	g.Append("next")
	if x, e := Open(g); x != nil || e != api.ErrDown {
		t.Error(e)
	}
}

// P6: whatever the power does, what was synced is known, and what more is known is a front of what was published.
func TestCrashes(t *testing.T) {
	for power := range 14 {
		for keep := range 40 {
			f := vfs.New(power)
			x, e := Open(f)
			if e != api.OK {
				t.Fatal(e)
			}
			synced, published := 0, 0
			for i := 1; i <= 4; i++ {
				if x.Publish(entry("a", i)) != api.OK {
					break
				}
				published = i
				if i%2 == 0 && x.Sync() == api.OK {
					synced = i
				}
				if i == 3 && x.Compact() == api.OK {
					synced = i
				}
			}
			y := open(t, f.Crash([]int{keep}, -1))
			got, _ := y.Find("a")
			if got.Version < synced || got.Version > published {
				t.Fatal(power, keep, got.Version, synced, published)
			}
		}
	}
}

// P20.4
func TestMemory(t *testing.T) {
	x := open(t, vfs.New(-1))
	e := entry("a", 1, "x")
	x.Publish(e)
	e.Exports[0].Name = "q"
	e.Exports[0].Type.Args[1].Name = "q"
	got, _ := x.Find("a")
	got.Exports[0].Type.Args[1].Name = "r"
	all := x.Entries()
	all[0].Exports[0].Name = "s"
	if got, _ := x.Find("a"); !reflect.DeepEqual(got, entry("a", 1, "x")) {
		t.Error(got)
	}
}
