package manifest

import (
	"stagecoach/api"
	"stagecoach/varint"
)

// visitor is led over what a small text has: of each thing it is told where the state has it.
type visitor interface {
	number(n *int)
	name(s *string)
	yes(is *bool)
	over() bool // nothing more is to be visited
}

// visit leads a visitor over all that a state's small text has, in its order.
func visit(v visitor, s *api.State) {
	v.number(&s.Room)
	v.number(&s.Now)
	list(v, &s.Topics, visitTopic)
	list(v, &s.Epochs, visitor.number)
	list(v, &s.Makers, visitMaker)
	list(v, &s.Groups, visitGroup)
	list(v, &s.Marks, visitMark)
}

// list leads a visitor over a list: how many it has, and each one. Only one that reads comes to places that the list has not: it is lengthened one by one, as a count may be greater than what follows it.
func list[T any](v visitor, l *[]T, each func(visitor, *T)) {
	n := len(*l)
	v.number(&n)
	for i := 0; i < n && !v.over(); i++ {
		if i == len(*l) {
			var one T
			*l = append(*l, one)
		}
		each(v, &(*l)[i])
	}
}

func visitTopic(v visitor, t *api.Topic) {
	v.name(&t.Name)
	v.number(&t.N)
}

func visitPart(v visitor, p *api.Part) {
	v.name(&p.Topic)
	v.number(&p.N)
}

func visitMaker(v visitor, m *api.Maker) {
	v.number(&m.Id)
	v.number(&m.Epoch)
	visitPart(v, &m.Part)
	list(v, &m.Last, visitDid)
}

func visitDid(v visitor, d *api.Did) {
	v.number(&d.Seq)
	v.number(&d.N)
	v.number(&d.Offset)
}

func visitGroup(v visitor, g *api.Grouped) {
	v.name(&g.Name)
	v.number(&g.Gen)
	v.yes(&g.Robin)
	list(v, &g.Seats, visitSeat)
}

func visitSeat(v visitor, s *api.Seat) {
	v.name(&s.M.Name)
	list(v, &s.M.Topics, visitor.name)
	v.number(&s.Timeout)
	v.number(&s.Seen)
}

func visitMark(v visitor, m *api.Mark) {
	v.name(&m.Group)
	visitPart(v, &m.Part)
	v.number(&m.Offset)
}

// writer writes what it visits, and changes nothing of it.
type writer struct{ l []byte }

func (w *writer) put(n uint64) {
	w.l = append(w.l, varint.Put(n)...)
}

func (w *writer) number(n *int) {
	w.put(uint64(*n))
}

func (w *writer) name(s *string) {
	w.l = append(w.l, varint.PutText(*s)...)
}

func (w *writer) yes(is *bool) {
	if *is {
		w.put(1)
	} else {
		w.put(0)
	}
}

func (w *writer) over() bool {
	return false
}

// reader reads what it visits. Whether what it read may be is asked once all was read.
type reader struct {
	s   string
	at  int
	bad bool // the bytes are no small text: all that is read from then on is zero
}

// step goes on to a place, unless there was an error.
func (r *reader) step(to int, e api.Errno) bool {
	r.bad = r.bad || e != api.OK
	if !r.bad {
		r.at = to
	}
	return !r.bad
}

// get is the next number; none is greater than most, so that each is an int.
func (r *reader) get(most uint64) int {
	n, to, e := varint.Get(r.s, r.at)
	if n > most {
		e = api.ErrBig
	}
	if !r.step(to, e) {
		return 0
	}
	return int(n)
}

// done tells whether all was read, and nothing stands behind it.
func (r *reader) done() bool {
	return !r.bad && r.at == len(r.s)
}

// number reads a number: a state that may be has none that is greater.
func (r *reader) number(n *int) {
	*n = r.get(api.MaxOffset)
}

// name reads a text that is a name, or none: that is asked later.
func (r *reader) name(s *string) {
	text, to, e := varint.GetText(r.s, r.at, len(r.s))
	if r.step(to, e) {
		*s = text
	}
}

func (r *reader) yes(is *bool) {
	*is = r.get(1) == 1
}

func (r *reader) over() bool {
	return r.bad
}
