package server

import (
	"parlance/api"
	"parlance/frame"
	"parlance/index"
	"parlance/vfs"
)

// mostClients: how many clients there are.
const mostClients = 8

// What a worker does next with its document.
const (
	stepNone    = iota // it has none
	stepType           // answer what waits for it
	stepPublish        // tell the index
	stepSync           // make that safe
)

// task is a document's version that is to be typed.
type task struct {
	uri     string
	version int
	text    string
	number  int
}

// document is an open document: its newest version.
type document struct {
	task
	client int
	typed  bool
}

// request is one that waits for a version to be typed.
type request struct {
	api.Request
	client  int
	number  int
	version int
	text    string
}

// client is a client's stream, and its messages that wait.
type client struct {
	stream   *frame.Decoder
	messages [][]byte
	closed   bool
}

// worker is a worker and its document.
type worker struct {
	step int
	task task
}

// session is what a crash takes away.
type session struct {
	files     *vfs.FS
	index     *index.Index
	down      bool
	clients   [mostClients]client
	documents map[string]*document
	tasks     []task // that wait for a worker
	workers   []worker
	requests  []request
	published map[string]int // the greatest number that was published of each document
	last      int            // the last number that was given
}

// start: a session at its beginning; with an error it is down.
func start(f *vfs.FS, workers int) (*session, api.Errno) {
	s := &session{files: f, documents: map[string]*document{}, workers: make([]worker, workers), published: map[string]int{}}
	for i := range s.clients {
		s.clients[i].stream = frame.New()
	}
	x, e := index.Open(f)
	s.index, s.down = x, e != api.OK
	return s, e
}

// lasting answers what a call of the index has; if the power is gone, the session is down.
func (s *session) lasting(e api.Errno) api.Errno {
	if e != api.ErrDown {
		return api.OK
	}
	s.down = true
	return e
}

// own: a client's open document.
func (s *session) own(client int, uri string) (*document, bool) {
	d := s.documents[uri]
	return d, d != nil && d.client == client
}

// renew: a document's new version waits to be typed.
func (s *session) renew(d *document, version int, text string) {
	s.last++
	d.version, d.text, d.number, d.typed = version, text, s.last, false
	s.tasks = append(s.tasks, d.task)
}

// gone: a client is closed, and nothing of it waits but its documents' versions.
func (s *session) gone(client int) {
	c := &s.clients[client]
	c.closed, c.messages, c.stream = true, nil, frame.New()
	for uri, d := range s.documents {
		if d.client == client {
			delete(s.documents, uri)
		}
	}
	s.pull(func(r request) bool { return r.client == client })
}

// pull takes the waiting requests out that are wanted, in order.
func (s *session) pull(wanted func(request) bool) []request {
	var out, rest []request
	for _, r := range s.requests {
		if wanted(r) {
			out = append(out, r)
		} else {
			rest = append(rest, r)
		}
	}
	s.requests = rest
	return out
}
