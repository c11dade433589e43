package request

import (
	"stagecoach/api"
	"stagecoach/record"
	"stagecoach/varint"
)

// visitor is led over what a command has: of each thing it is told what it is, and where another command of that kind has it.
type visitor interface {
	number(n int, to *int)
	name(s string, to *string)
	robin(is bool, to *bool)
	batch(b api.Batch, to *api.Batch)
	topics(l []string, to *[]string)
}

// visit leads a visitor over what a command's kind has, in its order.
func visit(v visitor, o api.Op, to *api.Op) {
	switch o.Kind {
	case api.OpTopic:
		v.name(o.Part.Topic, &to.Part.Topic)
		v.number(o.N, &to.N)
	case api.OpProducer, api.OpTick:
		v.number(o.N, &to.N)
	case api.OpProduce:
		visitPart(v, o, to)
		v.batch(o.Batch, &to.Batch)
	case api.OpFetch:
		visitPart(v, o, to)
		v.number(o.Offset, &to.Offset)
		v.number(o.N, &to.N)
	case api.OpRetain:
		visitPart(v, o, to)
		v.number(o.Offset, &to.Offset)
	case api.OpCompact:
		visitPart(v, o, to)
	case api.OpJoin:
		v.name(o.Group, &to.Group)
		v.name(o.Member, &to.Member)
		v.number(o.N, &to.N)
		v.robin(o.Robin, &to.Robin)
		v.topics(o.Topics, &to.Topics)
	case api.OpBeat, api.OpLeave, api.OpAssigned:
		visitSeat(v, o, to)
	case api.OpCommit:
		visitSeat(v, o, to)
		visitPart(v, o, to)
		v.number(o.Offset, &to.Offset)
	case api.OpCommitted:
		v.name(o.Group, &to.Group)
		visitPart(v, o, to)
	}
}

// visitPart leads a visitor over a command's partition.
func visitPart(v visitor, o api.Op, to *api.Op) {
	v.name(o.Part.Topic, &to.Part.Topic)
	v.number(o.Part.N, &to.Part.N)
}

// visitSeat leads a visitor over which member speaks, and in which generation.
func visitSeat(v visitor, o api.Op, to *api.Op) {
	v.name(o.Group, &to.Group)
	v.name(o.Member, &to.Member)
	v.number(o.Gen, &to.Gen)
}

// taker takes over what a command has, and remembers what of it may not be.
type taker struct {
	noForm   bool // a text is no name, or the topics may not be
	noNumber bool
	noBatch  api.Errno
}

func (t *taker) number(n int, to *int) {
	t.noNumber = t.noNumber || !number(n)
	*to = n
}

func (t *taker) name(s string, to *string) {
	t.noForm = t.noForm || !Name(s)
	*to = s
}

func (t *taker) robin(is bool, to *bool) {
	*to = is
}

func (t *taker) batch(b api.Batch, to *api.Batch) {
	t.noBatch = record.All(b)
	*to = b
}

func (t *taker) topics(l []string, to *[]string) {
	t.noForm = t.noForm || !rising(l)
	*to = l
}

// rising tells whether topics may be those of a command.
func rising(l []string) bool {
	if len(l) == 0 || len(l) > api.MaxTopics {
		return false
	}
	for i, s := range l {
		if !Name(s) || i > 0 && s <= l[i-1] {
			return false
		}
	}
	return true
}

// writer writes what a command or a reply has that may be.
type writer struct{ l []byte }

func (w *writer) put(n int) {
	w.l = append(w.l, varint.Put(uint64(n))...)
}

func (w *writer) number(n int, _ *int) {
	w.put(n)
}

func (w *writer) name(s string, _ *string) {
	w.l = append(w.l, varint.PutText(s)...)
}

func (w *writer) robin(is bool, _ *bool) {
	if is {
		w.put(1)
	} else {
		w.put(0)
	}
}

func (w *writer) batch(b api.Batch, _ *api.Batch) {
	// What may not be was refused ahead of writing.
	s, _ := record.Batch(b)
	w.l = append(w.l, s...)
}

func (w *writer) topics(l []string, _ *[]string) {
	w.put(len(l))
	for _, s := range l {
		w.name(s, nil)
	}
}

// reader reads what a command or a reply has. Whether what it read may be is asked once all was read.
type reader struct {
	s   string
	at  int
	bad bool // the bytes are none of what was asked for: all that is read from then on is zero
}

// step goes on to a place, unless there was an error.
func (r *reader) step(to int, e api.Errno) bool {
	r.bad = r.bad || e != api.OK
	if !r.bad {
		r.at = to
	}
	return !r.bad
}

// get is the next number; none is greater than most, so that each is an int, and no list asks for more room than it may have.
func (r *reader) get(most uint64) int {
	n, to, e := varint.Get(r.s, r.at)
	if n > most {
		e = api.ErrBig
	}
	if !r.step(to, e) {
		return 0
	}
	return int(n)
}

// text is the next text.
func (r *reader) text() string {
	s, to, e := varint.GetText(r.s, r.at, longestName)
	if !r.step(to, e) {
		return ""
	}
	return s
}

// record is the next record.
func (r *reader) record() api.Record {
	one, to, e := record.Get(r.s, r.at)
	if !r.step(to, e) {
		return api.Record{}
	}
	return one
}

// done tells whether all was read, and nothing stands behind it.
func (r *reader) done() bool {
	return !r.bad && r.at == len(r.s)
}

func (r *reader) number(_ int, to *int) {
	*to = r.get(api.MaxOffset)
}

func (r *reader) name(_ string, to *string) {
	*to = r.text()
}

func (r *reader) robin(_ bool, to *bool) {
	*to = r.get(1) == 1
}

func (r *reader) batch(_ api.Batch, to *api.Batch) {
	b, at, e := record.Parse(r.s, r.at)
	if r.step(at, e) {
		*to = b
	}
}

func (r *reader) topics(_ []string, to *[]string) {
	l := make([]string, r.get(api.MaxTopics))
	for i := range l {
		l[i] = r.text()
	}
	*to = l
}
