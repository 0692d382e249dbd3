package server

import (
	"jotter/api"
	"jotter/wire"
)

// Receive takes a datagram of a client's.
func (s *Server) Receive(b []byte) error {
	m, err := wire.Decode(b)
	if err != nil {
		return err
	}
	// All is looked at ahead of the first change, because a refused datagram leaves everything as it was.
	if e := s.check(m); e != api.OK {
		return api.Wrap(0, e)
	}
	s.take(m)
	return nil
}

// check tells why a message is refused.
func (s *Server) check(m api.Msg) api.Errno {
	switch {
	case m.Kind == api.MInvite || m.Kind == api.MRecord || m.Kind == api.MBeat:
		return api.ErrStray
	case m.Client > len(s.sessions):
		return api.ErrStranger
	case m.Epoch != s.book.Epoch():
		return api.ErrStale
	case m.Kind == api.MHello:
		return s.checkHello(m)
	}
	return s.checkLink(m)
}

// checkHello looks at a Hello only as long as it counts: a client says it until it has heard the answer.
func (s *Server) checkHello(m api.Msg) api.Errno {
	_, tag := s.book.Last(m.Client)
	switch {
	case s.sessions[m.Client-1] != nil:
		return api.OK
	case m.Have < tag || m.Have > s.book.Synced():
		return api.ErrHave
	case m.First != s.own(m.Client, m.Have)+1:
		return api.ErrFirst
	}
	return api.OK
}

// own tells how many of the first so many records are the client's own.
func (s *Server) own(client, revs int) int {
	count := 0
	for rev := 1; rev <= revs; rev++ {
		if edit, _ := s.book.Edit(rev); edit.Op.Client == client {
			count++
		}
	}
	return count
}

// checkLink looks at what an Edit and a Nod have in common, then at the edit.
func (s *Server) checkLink(m api.Msg) api.Errno {
	x := s.sessions[m.Client-1]
	switch {
	case x == nil:
		return api.ErrClosed
	case m.Ack > x.records.Sent():
		return api.ErrAck
	case m.Kind == api.MEdit:
		return s.checkEdit(x, m)
	}
	return api.OK
}

// checkEdit asks the book only if the edit's turn is now: of a duplicate it does not count, and an early one is looked at when its turn comes.
func (s *Server) checkEdit(x *session, m api.Msg) api.Errno {
	cum := x.edits.Cum()
	switch {
	case m.Op.Seq != x.from+m.Num-1:
		return api.ErrSeq
	case m.Num > cum+api.Reorder:
		return api.ErrFar
	case m.Tag > x.sent():
		return api.ErrSent
	case m.Num == cum+1 && !s.logged(m.Op):
		return s.book.Check(editOf(m))
	}
	return api.OK
}

// logged tells whether the edit of that client and Seq is in the log, from an earlier epoch or from this one.
func (s *Server) logged(op api.Op) bool {
	seq, _ := s.book.Last(op.Client)
	return op.Seq <= seq
}

// take does what a message that check lets through asks for.
func (s *Server) take(m api.Msg) {
	x := s.sessions[m.Client-1]
	switch {
	case m.Kind == api.MHello && x == nil:
		s.sessions[m.Client-1] = newSession(m.Have, m.First)
	case m.Kind == api.MNod:
		x.records.Ack(m.Ack)
	case m.Kind == api.MEdit:
		x.records.Ack(m.Ack)
		s.takeEdit(x, m)
	}
}

// takeEdit puts an edit into its place, and gives the book those whose turn has come. One that came before brings no turn.
func (s *Server) takeEdit(x *session, m api.Msg) {
	if x.edits.Put(m.Num, editOf(m)) != api.OK {
		return
	}
	for {
		next, ok := x.edits.Head()
		if !ok {
			return
		}
		if s.enter(next) != api.OK {
			x.edits.Toss()
			return
		}
		x.edits.Pop()
	}
}

// enter gives an edit to the book, unless it is there already.
func (s *Server) enter(e api.Edit) api.Errno {
	if s.logged(e.Op) {
		return api.OK
	}
	_, _, bad := s.book.Add(e)
	return bad
}

func editOf(m api.Msg) api.Edit { return api.Edit{Tag: m.Tag, Op: m.Op} }
