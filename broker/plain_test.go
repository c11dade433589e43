package broker

import (
	"reflect"
	"slices"
	"strings"
	"testing"

	"stagecoach/api"
	"stagecoach/assign"
	"stagecoach/request"
)

const most = 1 << 40 // the greatest offset, time, epoch and generation

// plain is a broker as the chapters' words say it: a state as it is told, and each answer made by going over all of it.
type plain struct {
	s api.State
}

// apart is a state that shares no list with another one, and has none instead of empty lists.
func apart(s api.State) api.State {
	s.Topics, s.Epochs, s.Marks = another(s.Topics), another(s.Epochs), another(s.Marks)
	s.Logs, s.Makers, s.Groups = another(s.Logs), another(s.Makers), another(s.Groups)
	for i := range s.Logs {
		l := another(s.Logs[i].Segs)
		for j := range l {
			l[j].L = another(l[j].L)
		}
		s.Logs[i].Segs = l
	}
	for i := range s.Makers {
		s.Makers[i].Last = another(s.Makers[i].Last)
	}
	for i := range s.Groups {
		l := another(s.Groups[i].Seats)
		for j := range l {
			l[j].M.Topics = another(l[j].M.Topics)
		}
		s.Groups[i].Seats = l
	}
	return s
}

// another is another list of the same; none of none.
func another[T any](l []T) []T {
	return append([]T(nil), l...)
}

func (p *plain) copy() *plain {
	return &plain{apart(p.s)}
}

// log is the log of a partition; nil, if there is none.
func (p *plain) log(part api.Part) *api.Logged {
	for i := range p.s.Logs {
		if p.s.Logs[i].Part == part {
			return &p.s.Logs[i]
		}
	}
	return nil
}

// end is where a log ends.
func end(g *api.Logged) int {
	return g.Segs[len(g.Segs)-1].Next
}

// group is the group of a name; nil, if there is none.
func (p *plain) group(name string) *api.Grouped {
	for i := range p.s.Groups {
		if p.s.Groups[i].Name == name {
			return &p.s.Groups[i]
		}
	}
	return nil
}

// seat is where a member's seat is; -1, if there is none.
func seat(g *api.Grouped, name string) int {
	return slices.IndexFunc(g.Seats, func(s api.Seat) bool { return s.M.Name == name })
}

// fence is group.Fence's error.
func fence(g *api.Grouped, o api.Op) api.Errno {
	if seat(g, o.Member) < 0 {
		return api.ErrGroupNone
	}
	if g.Gen != o.Gen {
		return api.ErrGroupGen
	}
	return api.OK
}

// further is the generation behind one.
func further(gen int) int {
	return min(gen+1, most)
}

// do does a command.
func (p *plain) do(o api.Op) api.Reply {
	if e := request.Check(o); e != api.OK {
		return api.Reply{E: e}
	}
	switch o.Kind {
	case api.OpTopic:
		return p.topic(o)
	case api.OpProducer:
		return p.producer(o)
	case api.OpJoin:
		return p.join(o)
	case api.OpTick:
		return p.tick(o)
	case api.OpBeat, api.OpLeave, api.OpAssigned, api.OpCommit:
		g := p.group(o.Group)
		if g == nil {
			return api.Reply{E: api.ErrGroupNone}
		}
		if e := fence(g, o); e != api.OK {
			return api.Reply{E: e}
		}
		return p.member(g, o)
	}
	g := p.log(o.Part)
	if g == nil {
		return api.Reply{E: api.ErrTopicsNone}
	}
	return p.onLog(g, o)
}

func (p *plain) topic(o api.Op) api.Reply {
	there := slices.ContainsFunc(p.s.Topics, func(t api.Topic) bool { return t.Name == o.Part.Topic })
	switch {
	case o.N < 1 || o.N > 8:
		return api.Reply{E: api.ErrArg}
	case there:
		return api.Reply{E: api.ErrTopicsThere}
	case len(p.s.Topics) == 8:
		return api.Reply{E: api.ErrBig}
	}
	p.s.Topics = append(p.s.Topics, api.Topic{Name: o.Part.Topic, N: o.N})
	slices.SortFunc(p.s.Topics, func(a, b api.Topic) int { return strings.Compare(a.Name, b.Name) })
	for i := range o.N {
		p.s.Logs = append(p.s.Logs, api.Logged{Part: at(o.Part.Topic, i), Segs: []api.Seg{{}}})
	}
	slices.SortStableFunc(p.s.Logs, func(a, b api.Logged) int { return strings.Compare(a.Part.Topic, b.Part.Topic) })
	return api.Reply{}
}

func (p *plain) producer(o api.Op) api.Reply {
	switch {
	case o.N == 0 && len(p.s.Epochs) == 32:
		return api.Reply{E: api.ErrBig}
	case o.N == 0:
		p.s.Epochs = append(p.s.Epochs, 0)
		return api.Reply{N: len(p.s.Epochs)}
	case o.N > len(p.s.Epochs):
		return api.Reply{E: api.ErrDedupNone}
	case p.s.Epochs[o.N-1] == most:
		return api.Reply{E: api.ErrBig}
	}
	p.s.Epochs[o.N-1]++
	p.s.Makers = slices.DeleteFunc(p.s.Makers, func(m api.Maker) bool { return m.Id == o.N })
	return api.Reply{N: o.N, Gen: p.s.Epochs[o.N-1]}
}

// onLog does what is done to a partition's log.
func (p *plain) onLog(g *api.Logged, o api.Op) api.Reply {
	switch o.Kind {
	case api.OpProduce:
		return p.produce(g, o.Batch)
	case api.OpFetch:
		return fetched(g, o)
	case api.OpCompact:
		return compacted(g)
	case api.OpCommitted:
		for _, m := range p.s.Marks {
			if m.Group == o.Group && m.Part == o.Part {
				return api.Reply{Offset: m.Offset, N: 1}
			}
		}
		return api.Reply{}
	}
	n := 0
	for len(g.Segs) > 1 && g.Segs[0].Next <= o.Offset {
		g.Segs = g.Segs[1:]
		n++
	}
	for i, m := range p.s.Marks {
		if m.Part == o.Part {
			p.s.Marks[i].Offset = max(m.Offset, g.Segs[0].Base)
		}
	}
	return api.Reply{Offset: g.Segs[0].Base, N: n}
}

func (p *plain) produce(g *api.Logged, b api.Batch) api.Reply {
	var m *api.Maker
	due := 0
	if b.Producer > 0 {
		if b.Producer > len(p.s.Epochs) || p.s.Epochs[b.Producer-1] < b.Epoch {
			return api.Reply{E: api.ErrDedupNone}
		}
		if p.s.Epochs[b.Producer-1] > b.Epoch {
			return api.Reply{E: api.ErrDedupFence}
		}
		for i, one := range p.s.Makers {
			if one.Id == b.Producer && one.Part == g.Part {
				m = &p.s.Makers[i]
				last := m.Last[len(m.Last)-1]
				due = last.Seq + last.N
			}
		}
		if b.Seq != due {
			for _, d := range lastOf(m) {
				if d.Seq == b.Seq && d.N == len(b.Records) {
					return api.Reply{Offset: d.Offset, N: 1}
				}
			}
			return api.Reply{E: api.ErrDedupOrder}
		}
	}
	from := end(g)
	if e := p.appended(g, b.Records); e != api.OK {
		return api.Reply{E: e}
	}
	if b.Producer > 0 {
		p.remember(m, g.Part, b, from)
	}
	return api.Reply{Offset: from}
}

// lastOf is what is remembered of a producer and a partition.
func lastOf(m *api.Maker) []api.Did {
	if m == nil {
		return nil
	}
	return m.Last
}

// appended puts records behind a log's.
func (p *plain) appended(g *api.Logged, l []api.Record) api.Errno {
	if len(l) > p.s.Room {
		return api.ErrBig
	}
	if end(g)+len(l) > most {
		return api.ErrSegmentFull
	}
	if len(g.Segs[len(g.Segs)-1].L)+len(l) > p.s.Room {
		g.Segs = append(g.Segs, api.Seg{Base: end(g), Next: end(g)})
	}
	open := &g.Segs[len(g.Segs)-1]
	for _, r := range l {
		open.L = append(open.L, api.Found{Offset: open.Next, R: r})
		open.Next++
	}
	return api.OK
}

// remember puts a batch behind those of a producer and a partition; m is nil, if none is remembered.
func (p *plain) remember(m *api.Maker, part api.Part, b api.Batch, offset int) {
	d := api.Did{Seq: b.Seq, N: len(b.Records), Offset: offset}
	if m != nil {
		m.Last = append(m.Last, d)
		m.Last = m.Last[max(0, len(m.Last)-5):]
		return
	}
	p.s.Makers = append(p.s.Makers, api.Maker{Id: b.Producer, Epoch: b.Epoch, Part: part, Last: []api.Did{d}})
	slices.SortFunc(p.s.Makers, func(a, b api.Maker) int {
		if a.Id != b.Id {
			return a.Id - b.Id
		}
		return order(a.Part, b.Part)
	})
}

// order is below 0 if a partition stands ahead of another one, above 0 if it stands behind it.
func order(a, b api.Part) int {
	if n := strings.Compare(a.Topic, b.Topic); n != 0 {
		return n
	}
	return a.N - b.N
}

func fetched(g *api.Logged, o api.Op) api.Reply {
	r := api.Reply{Offset: end(g), N: g.Segs[0].Base}
	if o.Offset < r.N {
		return api.Reply{E: api.ErrLogBelow}
	}
	if o.Offset > r.Offset {
		return api.Reply{E: api.ErrLogAbove}
	}
	for _, s := range g.Segs {
		for _, f := range s.L {
			if f.Offset >= o.Offset && len(r.Found) < o.N && len(r.Found) < 64 {
				r.Found = append(r.Found, f)
			}
		}
	}
	return r
}

func compacted(g *api.Logged) api.Reply {
	last := map[string]int{}
	for _, s := range g.Segs {
		for _, f := range s.L {
			if f.R.HasKey {
				last[f.R.Key] = f.Offset
			}
		}
	}
	n := 0
	for i, s := range g.Segs[:len(g.Segs)-1] {
		var stay []api.Found
		for _, f := range s.L {
			if !f.R.HasKey || last[f.R.Key] == f.Offset {
				stay = append(stay, f)
			}
		}
		n += len(s.L) - len(stay)
		g.Segs[i].L = stay
	}
	return api.Reply{N: n}
}

func (p *plain) join(o api.Op) api.Reply {
	g, had := p.group(o.Group), true
	if g == nil {
		if len(p.s.Groups) == 8 {
			return api.Reply{E: api.ErrBig}
		}
		g, had = &api.Grouped{Name: o.Group}, false
	}
	i := seat(g, o.Member)
	switch {
	case o.N == 0:
		return api.Reply{E: api.ErrArg}
	case len(g.Seats) > 0 && g.Robin != o.Robin:
		return api.Reply{E: api.ErrGroupMode}
	case i < 0 && len(g.Seats) == 8, g.Gen == most:
		return api.Reply{E: api.ErrBig}
	case i >= 0:
		g.Seats = slices.Delete(g.Seats, i, i+1)
	}
	g.Seats = append(g.Seats, api.Seat{M: api.Member{Name: o.Member, Topics: another(o.Topics)}, Timeout: o.N, Seen: p.s.Now})
	slices.SortFunc(g.Seats, func(a, b api.Seat) int { return strings.Compare(a.M.Name, b.M.Name) })
	g.Robin = o.Robin
	g.Gen++
	gen := g.Gen
	if !had {
		p.s.Groups = append(p.s.Groups, *g)
		slices.SortFunc(p.s.Groups, func(a, b api.Grouped) int { return strings.Compare(a.Name, b.Name) })
	}
	return api.Reply{Gen: gen}
}

// member does what a member of a group, in its generation, asks for.
func (p *plain) member(g *api.Grouped, o api.Op) api.Reply {
	i := seat(g, o.Member)
	switch o.Kind {
	case api.OpBeat:
		g.Seats[i].Seen = max(g.Seats[i].Seen, p.s.Now)
		return api.Reply{}
	case api.OpLeave:
		g.Seats = slices.Delete(g.Seats, i, i+1)
		g.Gen = further(g.Gen)
		return api.Reply{}
	}
	var m []api.Member
	for _, s := range g.Seats {
		m = append(m, s.M)
	}
	a, _ := assign.Range(p.s.Topics, m)
	if g.Robin {
		a, _ = assign.Robin(p.s.Topics, m)
	}
	if o.Kind == api.OpAssigned {
		return api.Reply{Parts: a[i]}
	}
	return api.Reply{E: p.commit(a[i], o)}
}

func (p *plain) commit(its []api.Part, o api.Op) api.Errno {
	if !slices.Contains(its, o.Part) {
		return api.ErrBrokerOther
	}
	if o.Offset > end(p.log(o.Part)) {
		return api.ErrLogAbove
	}
	m := api.Mark{Group: o.Group, Part: o.Part, Offset: o.Offset}
	for i, one := range p.s.Marks {
		if one.Group == m.Group && one.Part == m.Part {
			if one.Offset > m.Offset {
				return api.ErrOffsetsBack
			}
			p.s.Marks[i] = m
			return api.OK
		}
	}
	p.s.Marks = append(p.s.Marks, m)
	slices.SortFunc(p.s.Marks, func(a, b api.Mark) int {
		if n := strings.Compare(a.Group, b.Group); n != 0 {
			return n
		}
		return order(a.Part, b.Part)
	})
	return api.OK
}

func (p *plain) tick(o api.Op) api.Reply {
	if p.s.Now+o.N > most {
		return api.Reply{E: api.ErrBig}
	}
	p.s.Now += o.N
	r := api.Reply{Offset: p.s.Now}
	for i, g := range p.s.Groups {
		var stay []api.Seat
		for _, s := range g.Seats {
			if s.Seen+s.Timeout > p.s.Now {
				stay = append(stay, s)
			}
		}
		if gone := len(g.Seats) - len(stay); gone > 0 {
			r.N += gone
			p.s.Groups[i].Seats = stay
			p.s.Groups[i].Gen = further(g.Gen)
		}
	}
	return r
}

// tells tells where a broker's state and its plain one's differ.
func tells(t *testing.T, b *Broker, p *plain) {
	t.Helper()
	if got, want := apart(b.State()), apart(p.s); !reflect.DeepEqual(got, want) {
		t.Fatalf("State:\n%+v, want\n%+v", got, want)
	}
}

// does does a command, by a broker and its plain one, and tells where they differ then.
func does(t *testing.T, b *Broker, p *plain, o api.Op) api.Reply {
	t.Helper()
	was := apart(p.s)
	got, want := b.Do(o), p.do(o)
	if !request.Alike(got, want) {
		t.Fatalf("Do(%+v): %+v, want %+v", o, got, want)
	}
	tells(t, b, p)
	if asks := o.Kind == api.OpFetch || o.Kind == api.OpAssigned || o.Kind == api.OpCommitted; got.E != api.OK || asks {
		if !reflect.DeepEqual(apart(b.State()), was) {
			t.Fatalf("Do(%+v): %+v, but there was a change:\n%+v, it was\n%+v", o, got, b.State(), was)
		}
	}
	if got.E != api.OK && !request.Alike(got, api.Reply{E: got.E}) {
		t.Fatalf("Do(%+v): %+v beside the error", o, got)
	}
	return got
}

// row is a command, and what it comes to.
type row struct {
	o    api.Op
	want api.Reply
}

// run does one command after the other, and tells what came to anything else.
func run(t *testing.T, b *Broker, p *plain, rows ...row) {
	t.Helper()
	for i, x := range rows {
		if got := does(t, b, p, x.o); !request.Alike(got, x.want) {
			t.Errorf("%d: Do(%+v): %+v, want %+v", i, x.o, got, x.want)
		}
	}
}

// must does commands that have no error.
func must(t *testing.T, b *Broker, p *plain, l ...api.Op) {
	t.Helper()
	for i, o := range l {
		if r := does(t, b, p, o); r.E != api.OK {
			t.Fatalf("%d: Do(%+v): %d", i, o, r.E)
		}
	}
}

func mustNew(t *testing.T, room int, l ...api.Op) (*Broker, *plain) {
	t.Helper()
	b, e := New(room)
	if e != api.OK || b == nil {
		t.Fatalf("New(%d): %v, %d", room, b, e)
	}
	p := &plain{api.State{Room: room}}
	must(t, b, p, l...)
	return b, p
}

func mustLoad(t *testing.T, s api.State) (*Broker, *plain) {
	t.Helper()
	b, e := Load(s)
	if e != api.OK || b == nil {
		t.Fatalf("Load(%+v): %v, %d", s, b, e)
	}
	p := &plain{apart(s)}
	tells(t, b, p)
	return b, p
}

// Commands.

func at(topic string, n int) api.Part {
	return api.Part{Topic: topic, N: n}
}

func topic(name string, n int) api.Op {
	return api.Op{Kind: api.OpTopic, Part: at(name, 0), N: n}
}

func producer(id int) api.Op {
	return api.Op{Kind: api.OpProducer, N: id}
}

func produce(part api.Part, id, epoch, seq int, l ...api.Record) api.Op {
	return api.Op{Kind: api.OpProduce, Part: part, Batch: api.Batch{Producer: id, Epoch: epoch, Seq: seq, Records: l}}
}

func fetch(part api.Part, offset, n int) api.Op {
	return api.Op{Kind: api.OpFetch, Part: part, Offset: offset, N: n}
}

func retain(part api.Part, offset int) api.Op {
	return api.Op{Kind: api.OpRetain, Part: part, Offset: offset}
}

func compact(part api.Part) api.Op {
	return api.Op{Kind: api.OpCompact, Part: part}
}

func join(group, member string, timeout int, topics ...string) api.Op {
	return api.Op{Kind: api.OpJoin, Group: group, Member: member, N: timeout, Topics: topics}
}

func joinRobin(group, member string, timeout int, topics ...string) api.Op {
	o := join(group, member, timeout, topics...)
	o.Robin = true
	return o
}

func beat(group, member string, gen int) api.Op {
	return api.Op{Kind: api.OpBeat, Group: group, Member: member, Gen: gen}
}

func leave(group, member string, gen int) api.Op {
	return api.Op{Kind: api.OpLeave, Group: group, Member: member, Gen: gen}
}

func assigned(group, member string, gen int) api.Op {
	return api.Op{Kind: api.OpAssigned, Group: group, Member: member, Gen: gen}
}

func commit(group, member string, gen int, part api.Part, offset int) api.Op {
	return api.Op{Kind: api.OpCommit, Group: group, Member: member, Gen: gen, Part: part, Offset: offset}
}

func committed(group string, part api.Part) api.Op {
	return api.Op{Kind: api.OpCommitted, Group: group, Part: part}
}

func tick(n int) api.Op {
	return api.Op{Kind: api.OpTick, N: n}
}

// Replies.

func is(e api.Errno) api.Reply {
	return api.Reply{E: e}
}

// Records.

func value(s string) api.Record {
	return api.Record{Value: s}
}

func keyed(key, value string) api.Record {
	return api.Record{HasKey: true, Key: key, Value: value}
}

func tomb(key string) api.Record {
	return api.Record{HasKey: true, Key: key, Tomb: true}
}

// values are so many records without a key.
func values(n int) []api.Record {
	l := make([]api.Record, n)
	for i := range l {
		l[i] = value("v")
	}
	return l
}
