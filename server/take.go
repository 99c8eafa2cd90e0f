package server

import (
	"parlance/api"
	"parlance/json"
	"parlance/rpc"
	"parlance/text"
)

// send sends a value; if that can't be printed, that the request was none.
func (s *Server) send(client int, id, v api.Value) {
	b, e := json.Print(v)
	if e != api.OK {
		b, _ = json.Print(rpc.Fail(id, api.CodeRequest))
	}
	s.sent = append(s.sent, api.Packet{Client: client, Body: b})
}

// say tells a request's result or code; nothing, if no answer is wanted.
func (s *Server) say(client int, id, result api.Value, code int) {
	switch {
	case id.Kind == api.VNull:
	case code != 0:
		s.send(client, id, rpc.Fail(id, code))
	default:
		s.send(client, id, rpc.Reply(id, result))
	}
}

// answer answers a request about a version.
func (s *Server) answer(r request) {
	result, code := Answer(r.Request, r.version, r.text)
	s.say(r.client, r.Id, result, code)
}

// take: a message is read, and what it asks is done.
func (s *Server) take(client int, body []byte) {
	v, e := json.Parse(body)
	if e != api.OK {
		s.send(client, api.Value{}, rpc.Fail(api.Value{}, api.CodeParse))
		return
	}
	q, code := rpc.Read(v)
	if code != 0 {
		s.send(client, q.Id, rpc.Fail(q.Id, code))
		return
	}
	switch q.Do {
	case api.DoOpen:
		s.say(client, q.Id, api.Value{}, s.open(client, q))
	case api.DoChange:
		s.say(client, q.Id, api.Value{}, s.change(client, q))
	case api.DoClose:
		s.say(client, q.Id, api.Value{}, s.close(client, q))
	case api.DoExports:
		x, known := s.index.Find(q.URI)
		if known {
			s.say(client, q.Id, exports(x), 0)
		} else {
			s.say(client, q.Id, api.Value{}, api.CodeUnknown)
		}
	case api.DoCancel:
		s.cancel(client, func(r request) bool { return json.Same(r.Id, q.Other) })
		s.say(client, q.Id, api.Value{}, 0)
	case api.DoShutdown:
		s.cancel(client, func(request) bool { return true })
		s.say(client, q.Id, api.Value{}, 0)
		s.gone(client)
	default:
		s.ask(client, q)
	}
}

// open: a document is open for a client.
func (s *Server) open(client int, q api.Request) int {
	if s.documents[q.URI] != nil || len(q.Text) > api.MaxText {
		return api.CodeParams
	}
	d := &document{client: client}
	d.uri = q.URI
	s.documents[q.URI] = d
	s.renew(d, q.Version, q.Text)
	return 0
}

// change: a client's document has another version.
func (s *Server) change(client int, q api.Request) int {
	d, ok := s.own(client, q.URI)
	switch {
	case !ok:
		return api.CodeUnknown
	case q.Version <= d.version:
		return api.CodeModified
	}
	next, e := text.Apply(d.text, q.Edits...)
	if e != api.OK {
		return api.CodeParams
	}
	s.renew(d, q.Version, next)
	return 0
}

// close: a client's document isn't open any more.
func (s *Server) close(client int, q api.Request) int {
	if _, ok := s.own(client, q.URI); !ok {
		return api.CodeUnknown
	}
	delete(s.documents, q.URI)
	return 0
}

// ask: a question about a document is answered, or waits till its version is typed.
func (s *Server) ask(client int, q api.Request) {
	if q.Id.Kind == api.VNull {
		return
	}
	d := s.documents[q.URI]
	if d == nil {
		s.say(client, q.Id, api.Value{}, api.CodeUnknown)
		return
	}
	r := request{q, client, d.number, d.version, d.text}
	if d.typed {
		s.answer(r)
		return
	}
	s.requests = append(s.requests, r)
}

// cancel: a client's waiting requests that are wanted are answered so, and wait no more.
func (s *Server) cancel(client int, wanted func(request) bool) {
	for _, r := range s.pull(func(r request) bool { return r.client == client && wanted(r) }) {
		s.say(client, r.Id, api.Value{}, api.CodeCancel)
	}
}
