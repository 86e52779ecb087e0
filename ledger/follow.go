package ledger

import (
	"slices"

	"remuda/api"
	"remuda/record"
)

// follow does what a record does, or tells why that can't follow: then the state is as it was. No record's list is kept, but a copy of it.
func (s *State) follow(r record.Record) api.Errno {
	if !record.Right(r) {
		return api.ErrArg
	}
	switch r.Kind {
	case record.Base:
		*s = empty(r.Node, r.Count, r.Num)
	case record.Epoch:
		return s.begin(r)
	case record.Cell:
		return s.place(r)
	case record.Prepared:
		return s.prepare(r)
	case record.Done:
		return s.decide(r)
	case record.Past:
		return s.past(r)
	case record.Commit:
		return s.commit(r)
	case record.End:
		return s.end(r)
	case record.Out:
		return s.out(r)
	case record.In:
		return s.in(r)
	case record.Gone:
		return s.gone(r)
	}
	return api.OK
}

func (s *State) begin(r record.Record) api.Errno {
	if r.Num <= s.Epoch {
		return api.ErrOrder
	}
	s.Epoch = r.Num
	return api.OK
}

func (s *State) place(r record.Record) api.Errno {
	switch {
	case !s.has(r.Cell) || s.above(r.Node):
		return api.ErrArg
	case Locked(*s, r.Cell):
		return api.ErrLocked
	}
	s.Places[r.Cell] = Place{Status: r.Status, Hop: r.Hop, To: r.Node, Version: r.Version, Value: r.Value}
	return api.OK
}

func (s *State) prepare(r record.Record) api.Errno {
	switch {
	case s.known(r.Tid):
		return api.ErrThere
	case !s.hasAll(r.Items) || s.above(r.Tid.Node) || s.above(r.Nodes...) || !slices.Contains(r.Nodes, s.Node):
		return api.ErrArg
	}
	for _, x := range r.Items {
		if e := s.lockable(x); e != api.OK {
			return e
		}
	}
	if !s.room() {
		return api.ErrFull
	}
	p := Prepared{Tid: r.Tid, Items: r.Items, Nodes: r.Nodes}
	s.Prepared = insert(s.Prepared, Prepared.name, p.clone())
	return api.OK
}

func (s *State) hasAll(l []api.Item) bool {
	return !slices.ContainsFunc(l, func(x api.Item) bool { return !s.has(x.Cell) })
}

// lockable is why an item can't be prepared.
func (s *State) lockable(x api.Item) api.Errno {
	switch {
	case !Owns(*s, x.Cell):
		return api.ErrNone
	case Locked(*s, x.Cell):
		return api.ErrLocked
	case s.Places[x.Cell].Version != x.Version:
		return api.ErrVersion
	}
	return api.OK
}

func (s *State) decide(r record.Record) api.Errno {
	at := FindPrepared(*s, r.Tid)
	if at < 0 {
		return s.refuse(r)
	}
	if r.Yes {
		s.write(s.Prepared[at].Items)
	}
	s.Prepared = slices.Concat(s.Prepared[:at], s.Prepared[at+1:])
	s.conclude(r)
	return api.OK
}

// refuse decides what was never prepared, and so can't be committed.
func (s *State) refuse(r record.Record) api.Errno {
	switch {
	case FindDecided(*s, r.Tid) >= 0:
		return api.ErrThere
	case r.Yes:
		return api.ErrOrder
	}
	return s.past(r)
}

func (s *State) past(r record.Record) api.Errno {
	switch {
	case s.known(r.Tid):
		return api.ErrThere
	case s.above(r.Tid.Node):
		return api.ErrArg
	case !s.room():
		return api.ErrFull
	}
	s.conclude(r)
	return api.OK
}

func (s *State) conclude(r record.Record) {
	s.Decided = insert(s.Decided, Decided.name, Decided{Tid: r.Tid, Yes: r.Yes})
}

func (s *State) write(l []api.Item) {
	for _, x := range l {
		if x.Write && s.has(x.Cell) {
			p := &s.Places[x.Cell]
			p.Version, p.Value = p.Version+1, x.New
		}
	}
}

func (s *State) commit(r record.Record) api.Errno {
	switch {
	case r.Tid.Node != s.Node || s.above(r.Nodes...):
		return api.ErrArg
	case FindCommit(*s, r.Tid) >= 0:
		return api.ErrThere
	case len(s.Commits) >= api.MaxTable:
		return api.ErrFull
	}
	c := Commit{Tid: r.Tid, Items: r.Items, Nodes: r.Nodes}
	s.Commits = append(s.Commits, c.clone())
	return api.OK
}

func (s *State) end(r record.Record) api.Errno {
	at := FindCommit(*s, r.Tid)
	switch {
	case at < 0:
		return api.ErrNone
	case s.Commits[at].Over:
		return api.ErrThere
	}
	s.Commits[at].Over = true
	return api.OK
}

func (s *State) out(r record.Record) api.Errno {
	switch {
	case !s.has(r.Cell) || r.Node == s.Node || s.above(r.Node):
		return api.ErrArg
	case !Owns(*s, r.Cell):
		return api.ErrNone
	case Locked(*s, r.Cell):
		return api.ErrLocked
	case r.Hop != s.Places[r.Cell].Hop+1:
		return api.ErrOrder
	}
	p := &s.Places[r.Cell]
	p.Status, p.Hop, p.To = leaving, r.Hop, r.Node
	return api.OK
}

func (s *State) in(r record.Record) api.Errno {
	switch {
	case !s.has(r.Cell):
		return api.ErrArg
	case Owns(*s, r.Cell):
		return api.ErrThere
	case r.Hop <= s.Places[r.Cell].Hop:
		return api.ErrOrder
	}
	s.Places[r.Cell] = Place{Status: owned, Hop: r.Hop, Version: r.Version, Value: r.Value}
	return api.OK
}

func (s *State) gone(r record.Record) api.Errno {
	switch {
	case !s.has(r.Cell):
		return api.ErrArg
	case s.Places[r.Cell].Status != leaving:
		return api.ErrNone
	case r.Hop != s.Places[r.Cell].Hop:
		return api.ErrOrder
	}
	s.Places[r.Cell] = Place{Status: elsewhere, Hop: r.Hop}
	return api.OK
}
