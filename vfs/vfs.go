// Package vfs is layer 1: see shared/doc/01-vfs.md.
package vfs

import (
	"iter"
	"slices"

	"parlance/api"
)

// file: its bytes; the first safe of them outlast a crash.
type file struct {
	bytes []byte
	safe  int
}

// FS is a stand-in file system.
type FS struct {
	files map[string]*file
	power int // how many changes are left; below 0: any number
}

// New: an empty one.
func New(power int) *FS { return &FS{files: map[string]*file{}, power: power} }

// Append: bytes behind a file.
func (f *FS) Append(name string, parts ...[]byte) api.Errno {
	if !isName(name) {
		return api.ErrName
	}
	return f.change(func() {
		if f.files[name] == nil {
			f.files[name] = &file{}
		}
		f.files[name].add(parts...)
	})
}

// Truncate: a file's first bytes.
func (f *FS) Truncate(name string, n int) api.Errno {
	x, e := f.find(name)
	if e != api.OK {
		return e
	}
	if n < 0 || n > len(x.bytes) {
		return api.ErrRange
	}
	return f.change(func() {
		x.bytes = x.bytes[:n]
		x.safe = min(x.safe, n)
	})
}

// Rename: a file's other name.
func (f *FS) Rename(from, to string) api.Errno {
	if !isName(to) {
		return api.ErrName
	}
	x, e := f.find(from)
	if e != api.OK {
		return e
	}
	return f.change(func() {
		delete(f.files, from)
		f.files[to] = x
	})
}

// Remove: a file less.
func (f *FS) Remove(name string) api.Errno {
	if _, e := f.find(name); e != api.OK {
		return e
	}
	return f.change(func() { delete(f.files, name) })
}

// Sync: a file's bytes are safe.
func (f *FS) Sync(name string) api.Errno {
	x, e := f.find(name)
	if e != api.OK {
		return e
	}
	return f.change(func() { x.safe = len(x.bytes) })
}

// Read: a file's bytes.
func (f *FS) Read(name string) ([]byte, api.Errno) {
	x, e := f.find(name)
	if e != api.OK {
		return nil, e
	}
	return slices.Clone(x.bytes), api.OK
}

// Names: all files' names.
func (f *FS) Names() []string {
	names := make([]string, 0, len(f.files))
	for name := range f.rising() {
		names = append(names, name)
	}
	return names
}

// Crash: what a loss of power leaves.
func (f *FS) Crash(keeps []int, power int) *FS {
	left := New(power)
	at := 0
	for name, x := range f.rising() {
		kept := 0
		if len(keeps) > 0 {
			kept = keeps[at%len(keeps)]
			at++
		}
		kept = min(max(kept, 0), len(x.bytes)-x.safe)
		y := &file{}
		y.add(x.bytes[:x.safe+kept])
		y.safe = len(y.bytes)
		left.files[name] = y
	}
	return left
}

// add puts all parts behind the file's bytes.
func (x *file) add(parts ...[]byte) {
	for _, part := range parts {
		x.bytes = append(x.bytes, part...)
	}
}

// change does something, if there is power for it.
func (f *FS) change(do func()) api.Errno {
	if f.power == 0 {
		return api.ErrDown
	}
	if f.power > 0 {
		f.power--
	}
	do()
	return api.OK
}

// find answers the file of a name.
func (f *FS) find(name string) (*file, api.Errno) {
	if !isName(name) {
		return nil, api.ErrName
	}
	x := f.files[name]
	if x == nil {
		return nil, api.ErrNone
	}
	return x, api.OK
}

// rising goes through the files by rising names.
func (f *FS) rising() iter.Seq2[string, *file] {
	return func(yield func(string, *file) bool) {
		names := make([]string, 0, len(f.files))
		for name := range f.files {
			names = append(names, name)
		}
		slices.Sort(names)
		for _, name := range names {
			if !yield(name, f.files[name]) {
				return
			}
		}
	}
}

// isName: may a file have this name?
func isName(name string) bool {
	if len(name) < 1 || len(name) > api.MaxFile {
		return false
	}
	for i := range len(name) {
		c := name[i]
		if (c < 'a' || c > 'z') && (c < '0' || c > '9') && c != '.' && c != '-' {
			return false
		}
	}
	return true
}
