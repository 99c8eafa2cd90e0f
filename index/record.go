package index

import (
	"parlance/api"
	"parlance/scheme"
)

// What a record's first byte says.
const (
	tagEntry  = 1 // the URI's entry is this one
	tagRemove = 2 // the URI has no entry any more
)

// versionSize: the bytes of a version.
const versionSize = 4

// Record: an entry's record.
func Record(e api.Entry) ([]byte, api.Errno) {
	if !right(e) {
		return nil, api.ErrRecord
	}
	exports, err := scheme.Encode(e.Exports)
	if err != api.OK {
		return nil, api.ErrRecord
	}
	b := append(start(tagEntry, e.URI), byte(e.Version>>24), byte(e.Version>>16), byte(e.Version>>8), byte(e.Version))
	return append(b, exports...), api.OK
}

// right: is it a right entry?
func right(e api.Entry) bool {
	return rightURI(e.URI) && e.Version >= 0 && e.Version < api.MaxInt && scheme.Right(e.Exports)
}

// rightURI: may a document have this name?
func rightURI(uri string) bool { return len(uri) >= 1 && len(uri) <= api.MaxURI }

// start: what each record begins with.
func start(tag byte, uri string) []byte {
	return append([]byte{tag, byte(len(uri))}, uri...)
}

// split: a record's first byte, its URI, and what stands behind it; the byte 0, if these aren't there.
func split(b []byte) (byte, string, []byte) {
	if len(b) < 2 || len(b) < 2+int(b[1]) {
		return 0, "", nil
	}
	end := 2 + int(b[1])
	return b[0], string(b[2:end]), b[end:]
}

// version: the number of the first four bytes.
func version(b []byte) int {
	return int(b[0])<<24 | int(b[1])<<16 | int(b[2])<<8 | int(b[3])
}
