package frame

import (
	"slices"
	"strings"
	"testing"

	"parlance/api"
)

func texts(list [][]byte) []string {
	var out []string
	for _, b := range list {
		out = append(out, string(b))
	}
	return out
}

// feed tells a stream in pieces of some size.
func feed(s string, size int) ([]string, api.Errno, *Decoder) {
	d := New()
	var out []string
	for len(s) > 0 {
		n := min(size, len(s))
		list, e := d.Feed([]byte(s[:n]))
		out = append(out, texts(list)...)
		if e != api.OK {
			return out, e, d
		}
		s = s[n:]
	}
	return out, api.OK, d
}

func wantFeed(t *testing.T, s string, want []string, e api.Errno, held int) {
	t.Helper()
	for _, size := range []int{1, 2, 3, 7, 1 << 20} {
		got, f, d := feed(s, size)
		if !slices.Equal(got, want) || f != e || d.Held() != held || d.Dead() != (e != api.OK) {
			t.Errorf("%.60q by %d: %q %d held %d", s, size, got, f, d.Held())
		}
	}
}

// P3.1
func TestFeed(t *testing.T) {
	one := "Content-Length: 2\r\n\r\nab"
	wantFeed(t, "", nil, api.OK, 0)
	wantFeed(t, one, []string{"ab"}, api.OK, 0)
	wantFeed(t, one+one+"Content", []string{"ab", "ab"}, api.OK, 7)
	wantFeed(t, one[:22], nil, api.OK, 22)
	wantFeed(t, "content-LENGTH:2 \r\nX: y\r\n\r\nab", []string{"ab"}, api.OK, 0)
	wantFeed(t, "X-y:\r\nContent-Length:\t 000002 \t \r\na::\xff \r\n\r\nab", []string{"ab"}, api.OK, 0)
	wantFeed(t, "Content-Length:0\r\n\r\n", []string{""}, api.OK, 0)
	wantFeed(t, "Content-Length:0\r\n\r\n"+one, []string{"", "ab"}, api.OK, 0)
	body := strings.Repeat("\r\n", api.MaxBody/2)
	wantFeed(t, "Content-Length: 65536\r\n\r\n"+body, []string{body}, api.OK, 0)
	wantFeed(t, "\r", nil, api.OK, 1)
	wantFeed(t, "x\r\n\r", nil, api.OK, 4)
}

// P3.1: heads that aren't made as told.
func TestHeads(t *testing.T) {
	for _, head := range []string{
		"", "Content-Length 2\r\n", "Content-Length:\r\n", "Content-Length: \r\n", "Content-Length: 0000002\r\n", "Content-Length: -2\r\n", "Content-Length: +2\r\n",
		"Content-Length: 2 2\r\n", "Content-Length: 2x\r\n", "Content-Length: 0x2\r\n", "Content-Length : 2\r\n", " Content-Length: 2\r\n", "Content-Length: 2\v\r\n",
		"X: y\r\n", "Content-Length: 2\r\nContent-Length: 2\r\n", "Content-Length: 2\r\ncontent-length: 2\r\n", "Content-Length: 2\r\n: y\r\n", "Content-Length: 2\r\nX\r\n",
		"Content-Length: 2\r\nX1: y\r\n", "Content-Length: 2\r\nX_: y\r\n", "Content-Length: 2\r\nX: a\rb\r\n", "Content-Length: 2\r\nX: a\nb\r\n", "Content-Length: 2\n\r\n", "Content-Length: 2\r\nX: \r\r\n",
		"X: \r\nContent-Length: \xc2\xa02\r\n", "Content-Length: 2\r\n\xe2\x84\xaa: y\r\n",
	} {
		wantFeed(t, "Content-Length: 1\r\n\r\nq"+head+"\r\nab", []string{"q"}, api.ErrHead, 0)
	}
	wantFeed(t, "Content-Length: 65537\r\n\r\n", nil, api.ErrBody, 0)
	wantFeed(t, "Content-Length: 999999\r\n\r\nab", nil, api.ErrBody, 0)
	wantFeed(t, "Content-Length: 65537\r\nX\r\n\r\n", nil, api.ErrHead, 0)
}

// P3.1: the head's end is within the first 1,024 bytes.
func TestLongHeads(t *testing.T) {
	head := func(n int) string {
		s := "Content-Length: 2\r\nX: "
		return s + strings.Repeat("y", n-len(s)-4) + "\r\n\r\n"
	}
	wantFeed(t, head(1024)+"ab", []string{"ab"}, api.OK, 0)
	wantFeed(t, head(1025)+"ab", nil, api.ErrHead, 0)
	wantFeed(t, head(1024)+"ab"+head(1028)+"ab", []string{"ab"}, api.ErrHead, 0)
	wantFeed(t, strings.Repeat("\x00", 1023), nil, api.OK, 1023)
	wantFeed(t, strings.Repeat("\x00", 1024), nil, api.ErrHead, 0)
}

// P3.1: a dead decoder answers its error for ever.
func TestDead(t *testing.T) {
	d := New()
	if list, e := d.Feed([]byte("Content-Length: 1\r\n\r\naContent-Length: 70000\r\n\r\n")); len(list) != 1 || e != api.ErrBody {
		t.Error(list, e)
	}
	for range 3 {
		if list, e := d.Feed([]byte("Content-Length: 1\r\n\r\na")); len(list) != 0 || e != api.ErrBody {
			t.Error(list, e)
		}
	}
	if list, e := d.Feed(nil); len(list) != 0 || e != api.ErrBody || !d.Dead() || d.Held() != 0 {
		t.Error(list, e)
	}
}

// P3.2
func TestEncode(t *testing.T) {
	for _, n := range []int{0, 1, 9, 10, 4096, api.MaxBody} {
		body := strings.Repeat("b", n)
		b, e := Encode([]byte(body))
		if e != api.OK {
			t.Error(n, e)
		}
		wantFeed(t, string(b), []string{body}, api.OK, 0)
	}
	if b, _ := Encode([]byte("{}")); string(b) != "Content-Length: 2\r\n\r\n{}" {
		t.Errorf("%q", b)
	}
	if b, e := Encode(make([]byte, api.MaxBody+1)); len(b) != 0 || e != api.ErrBody {
		t.Error(len(b), e)
	}
}

// P3.3
func TestMemory(t *testing.T) {
	d := New()
	in := []byte("Content-Length: 2\r\n\r\na")
	d.Feed(in)
	for i := range in {
		in[i] = 'z'
	}
	list, e := d.Feed([]byte("bContent-Length: 1\r\n\r\nc"))
	if !slices.Equal(texts(list), []string{"ab", "c"}) || e != api.OK {
		t.Error(list, e)
	}
	_ = append(list[0], "zzzzzz"...)
	if string(list[1]) != "c" {
		t.Error("shared")
	}
	body := make([]byte, 1, 100)
	out, _ := Encode(body)
	out[len(out)-1] = 7
	if body[0] != 0 {
		t.Error("shared")
	}
}
