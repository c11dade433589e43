package manifest

import (
	"encoding/binary"
	"hash/crc32"
	"reflect"
	"slices"
	"strconv"
	"strings"
	"testing"

	"stagecoach/api"
	"stagecoach/broker"
	"stagecoach/chunks"
	"stagecoach/topics"
)

const most = 1 << 40 // the greatest offset, time, epoch and generation

// token is one thing of a small text: a number, a count, a yes or no, a name.
type token struct {
	kind byte
	n    uint64
	s    string
}

const (
	isNumber = 'n'
	isCount  = 'c'
	isYes    = 'y'
	isName   = 's'
)

func num(n int) token { return token{kind: isNumber, n: uint64(n)} }

func count(n int) token { return token{kind: isCount, n: uint64(n)} }

func name(s string) token { return token{kind: isName, s: s} }

// tokens are the things of a state's small text, by the chapter's words.
func tokens(s api.State) []token {
	l := []token{num(s.Room), num(s.Now), count(len(s.Topics))}
	for _, t := range s.Topics {
		l = append(l, name(t.Name), num(t.N))
	}
	l = append(l, count(len(s.Epochs)))
	for _, n := range s.Epochs {
		l = append(l, num(n))
	}
	l = append(l, count(len(s.Makers)))
	for _, m := range s.Makers {
		l = append(l, num(m.Id), num(m.Epoch), name(m.Part.Topic), num(m.Part.N), count(len(m.Last)))
		for _, d := range m.Last {
			l = append(l, num(d.Seq), num(d.N), num(d.Offset))
		}
	}
	l = append(l, count(len(s.Groups)))
	for _, g := range s.Groups {
		robin := token{kind: isYes}
		if g.Robin {
			robin.n = 1
		}
		l = append(l, name(g.Name), num(g.Gen), robin, count(len(g.Seats)))
		for _, x := range g.Seats {
			l = append(l, name(x.M.Name), count(len(x.M.Topics)))
			for _, t := range x.M.Topics {
				l = append(l, name(t))
			}
			l = append(l, num(x.Timeout), num(x.Seen))
		}
	}
	l = append(l, count(len(s.Marks)))
	for _, m := range s.Marks {
		l = append(l, name(m.Group), name(m.Part.Topic), num(m.Part.N), num(m.Offset))
	}
	return l
}

// plainNumber is a number's bytes.
func plainNumber(n uint64) string {
	return string(binary.AppendUvarint(nil, n))
}

func plainName(s string) string {
	return plainNumber(uint64(len(s))) + s
}

func (t token) bytes() string {
	if t.kind == isName {
		return plainName(t.s)
	}
	return plainNumber(t.n)
}

// text are the bytes of some things.
func text(l []token) string {
	var b strings.Builder
	for _, t := range l {
		b.WriteString(t.bytes())
	}
	return b.String()
}

// plainSmall is a state's small text, also of one that may not be.
func plainSmall(s api.State) string {
	return text(tokens(s))
}

// plainReader reads without asking much: whether what it read may be is seen by putting it to bytes again.
type plainReader struct {
	s   string
	bad bool
}

func (r *plainReader) number() int {
	n, size := binary.Uvarint([]byte(r.s[:min(len(r.s), 10)]))
	if r.bad || size < 1 {
		r.bad = true
		return 0
	}
	r.s = r.s[size:]
	return int(n)
}

// count is how many follow: none, if there are not as many bytes.
func (r *plainReader) count() int {
	n := r.number()
	if n < 0 || n > len(r.s) {
		r.bad = true
		return 0
	}
	return n
}

func (r *plainReader) name() string {
	n := r.count()
	s := r.s[:n]
	r.s = r.s[n:]
	return s
}

func (r *plainReader) part() api.Part {
	return api.Part{Topic: r.name(), N: r.number()}
}

func (r *plainReader) state() api.State {
	s := api.State{Room: r.number(), Now: r.number()}
	for range r.count() {
		s.Topics = append(s.Topics, api.Topic{Name: r.name(), N: r.number()})
	}
	for range r.count() {
		s.Epochs = append(s.Epochs, r.number())
	}
	for range r.count() {
		m := api.Maker{Id: r.number(), Epoch: r.number(), Part: r.part()}
		for range r.count() {
			m.Last = append(m.Last, api.Did{Seq: r.number(), N: r.number(), Offset: r.number()})
		}
		s.Makers = append(s.Makers, m)
	}
	for range r.count() {
		g := api.Grouped{Name: r.name(), Gen: r.number(), Robin: r.number() != 0}
		for range r.count() {
			x := api.Seat{M: api.Member{Name: r.name()}}
			for range r.count() {
				x.M.Topics = append(x.M.Topics, r.name())
			}
			x.Timeout, x.Seen = r.number(), r.number()
			g.Seats = append(g.Seats, x)
		}
		s.Groups = append(s.Groups, g)
	}
	for range r.count() {
		s.Marks = append(s.Marks, api.Mark{Group: r.name(), Part: r.part(), Offset: r.number()})
	}
	return s
}

// plainParts are all partitions of a state; none, if its topics may not be.
func plainParts(s api.State) []api.Part {
	c, e := topics.Load(s.Topics)
	if e != api.OK {
		return nil
	}
	var names []string
	for _, t := range s.Topics {
		names = append(names, t.Name)
	}
	return c.Parts(names)
}

// plainParse is the state without logs whose small text it is, and whether there is one.
func plainParse(s string) (api.State, bool) {
	r := plainReader{s: s}
	x := r.state()
	if r.bad || plainSmall(x) != s {
		return api.State{}, false
	}
	y := x
	for _, p := range plainParts(x) {
		y.Logs = append(y.Logs, api.Logged{Part: p, Segs: []api.Seg{{Base: 0, Next: 0}}})
	}
	if _, e := broker.Load(y); e != api.OK {
		return api.State{}, false
	}
	return x, true
}

func plainDigest(s string) uint64 {
	back := []byte(s)
	slices.Reverse(back)
	return uint64(crc32.ChecksumIEEE([]byte(s)))*(1<<32) + uint64(crc32.ChecksumIEEE(back))
}

// plainText is the text of a segment that may be.
func plainText(x api.Seg) string {
	s := plainNumber(uint64(x.Base)) + plainNumber(uint64(x.Next)) + plainNumber(uint64(len(x.L)))
	least := x.Base
	for _, f := range x.L {
		s += plainNumber(uint64(f.Offset - least))
		switch {
		case f.R.Tomb:
			s += "\x03" + plainName(f.R.Key)
		case f.R.HasKey:
			s += "\x01" + plainName(f.R.Key) + plainName(f.R.Value)
		default:
			s += "\x00" + plainName(f.R.Value)
		}
		least = f.Offset + 1
	}
	return s
}

// plainMake is the manifest of a state that may be, and its pieces' texts.
func plainMake(s api.State) (api.Manifest, []string) {
	m := api.Manifest{Small: plainDigest(plainSmall(s))}
	var texts []string
	for _, g := range s.Logs {
		for _, x := range g.Segs {
			one := plainText(x)
			texts = append(texts, one)
			m.Pieces = append(m.Pieces, api.Piece{Part: g.Part, Base: x.Base, Next: x.Next, Digest: plainDigest(one)})
		}
	}
	return m, texts
}

// manifestBytes are the bytes whose digest is a manifest's.
func manifestBytes(m api.Manifest) string {
	s := plainNumber(m.Small) + plainNumber(uint64(len(m.Pieces)))
	for _, p := range m.Pieces {
		s += plainName(p.Part.Topic) + plainNumber(uint64(p.Part.N)) + plainNumber(uint64(p.Base)) + plainNumber(uint64(p.Next)) + plainNumber(p.Digest)
	}
	return s
}

// plainMissing are the places of the pieces of want that have has not.
func plainMissing(have, want api.Manifest) []int {
	var l []int
	for i, p := range want.Pieces {
		if !slices.Contains(have.Pieces, p) {
			l = append(l, i)
		}
	}
	return l
}

// plainBuild is what a manifest, a small text and texts come to.
func plainBuild(m api.Manifest, small string, texts []string) (api.State, api.Errno) {
	if plainDigest(small) != m.Small || len(texts) != len(m.Pieces) {
		return api.State{}, api.ErrManifestOther
	}
	for i, p := range m.Pieces {
		if plainDigest(texts[i]) != p.Digest {
			return api.State{}, api.ErrManifestOther
		}
	}
	s, ok := plainParse(small)
	if !ok {
		return api.State{}, api.ErrManifestForm
	}
	var order []api.Part
	segs := map[api.Part][]api.Seg{}
	for i, p := range m.Pieces {
		x, e := chunks.Parse(texts[i])
		if e != api.OK || x.Base != p.Base || x.Next != p.Next {
			return api.State{}, api.ErrManifestForm
		}
		if i == 0 || p.Part != m.Pieces[i-1].Part {
			order = append(order, p.Part)
		}
		segs[p.Part] = append(segs[p.Part], x)
	}
	if !slices.Equal(order, plainParts(s)) {
		return api.State{}, api.ErrManifestForm
	}
	for _, p := range order {
		s.Logs = append(s.Logs, api.Logged{Part: p, Segs: segs[p]})
	}
	if _, e := broker.Load(s); e != api.OK {
		return api.State{}, api.ErrManifestForm
	}
	return s, api.OK
}

// another is another list of the same; none of none.
func another[T any](l []T) []T {
	return append([]T(nil), l...)
}

// apart is a state that shares no list with another one, and has none instead of empty lists.
func apart(s api.State) api.State {
	s.Topics, s.Epochs, s.Marks = another(s.Topics), another(s.Epochs), another(s.Marks)
	s.Logs, s.Makers, s.Groups = another(s.Logs), another(s.Makers), another(s.Groups)
	for i := range s.Logs {
		l := another(s.Logs[i].Segs)
		for j := range l {
			l[j].L = another(l[j].L)
		}
		s.Logs[i].Segs = l
	}
	for i := range s.Makers {
		s.Makers[i].Last = another(s.Makers[i].Last)
	}
	for i := range s.Groups {
		l := another(s.Groups[i].Seats)
		for j := range l {
			l[j].M.Topics = another(l[j].M.Topics)
		}
		s.Groups[i].Seats = l
	}
	return s
}

// same tells whether two states are the same, list for list.
func same(a, b api.State) bool {
	return reflect.DeepEqual(apart(a), apart(b))
}

// bare is a state without its logs.
func bare(s api.State) api.State {
	s.Logs = nil
	return s
}

// sameManifest tells whether two manifests are the same.
func sameManifest(a, b api.Manifest) bool {
	return a.Small == b.Small && slices.Equal(a.Pieces, b.Pieces)
}

// clone is a manifest that shares no list with another one.
func clone(m api.Manifest) api.Manifest {
	return api.Manifest{Small: m.Small, Pieces: another(m.Pieces)}
}

// mustSmall is the small text of a state that may be.
func mustSmall(t *testing.T, s api.State) string {
	t.Helper()
	small, e := Small(s)
	if e != api.OK {
		t.Fatalf("Small(%+v): %d", s, e)
	}
	return small
}

// mustMake is the manifest of a state that may be, and its pieces' texts.
func mustMake(t *testing.T, s api.State) (api.Manifest, []string) {
	t.Helper()
	m, texts, e := Make(s)
	if e != api.OK {
		t.Fatalf("Make(%+v): %d", s, e)
	}
	return m, texts
}

// parses holds Parse against the plain one, and tells whether there is a state.
func parses(t *testing.T, s string) bool {
	t.Helper()
	got, e := Parse(s)
	want, ok := plainParse(s)
	switch {
	case !ok && (e != api.ErrManifestForm || !reflect.DeepEqual(got, api.State{})):
		t.Errorf("Parse(%q): %+v, %d", s, got, e)
	case ok && (e != api.OK || !same(got, want)):
		t.Errorf("Parse(%q): %+v, %d, want %+v", s, got, e, want)
	}
	return ok
}

// builds holds Build against the plain one, and tells its error.
func builds(t *testing.T, m api.Manifest, small string, texts []string) api.Errno {
	t.Helper()
	got, e := Build(m, small, texts)
	want, wantE := plainBuild(m, small, texts)
	if e != wantE || !same(got, want) || e != api.OK && !reflect.DeepEqual(got, api.State{}) {
		t.Errorf("Build(%+v, %q, %q): %+v, %d, want %+v, %d", m, small, texts, got, e, want, wantE)
	}
	return e
}

func at(topic string, n int) api.Part {
	return api.Part{Topic: topic, N: n}
}

func value(s string) api.Record {
	return api.Record{Value: s}
}

func keyed(key, value string) api.Record {
	return api.Record{HasKey: true, Key: key, Value: value}
}

func tomb(key string) api.Record {
	return api.Record{HasKey: true, Key: key, Tomb: true}
}

// found are records, each with its offset, from one on.
func found(from int, l ...api.Record) []api.Found {
	var out []api.Found
	for i, r := range l {
		out = append(out, api.Found{Offset: from + i, R: r})
	}
	return out
}

// done is the state of a broker that did commands, of which none had an error.
func done(t *testing.T, room int, l ...api.Op) api.State {
	t.Helper()
	b, e := broker.New(room)
	if e != api.OK {
		t.Fatal(e)
	}
	for i, o := range l {
		if r := b.Do(o); r.E != api.OK {
			t.Fatalf("%d: Do(%+v): %d", i, o, r.E)
		}
	}
	return b.State()
}

// one is a state of one topic, of one partition, whose log has two segments.
func one() api.State {
	return api.State{
		Room: 2, Now: 7, Topics: []api.Topic{{Name: "t", N: 1}},
		Logs:   []api.Logged{{Part: at("t", 0), Segs: []api.Seg{{Base: 3, Next: 5, L: found(3, value("3"), value("4"))}, {Base: 5, Next: 6, L: found(5, value("5"))}}}},
		Epochs: []int{4, 0}, Makers: []api.Maker{{Id: 1, Epoch: 4, Part: at("t", 0), Last: []api.Did{{Seq: 8, N: 1, Offset: 4}, {Seq: 9, N: 1, Offset: 5}}}},
		Groups: []api.Grouped{{Name: "g", Gen: 3, Robin: true, Seats: []api.Seat{{M: api.Member{Name: "m", Topics: []string{"s", "t"}}, Timeout: 5, Seen: 6}}}},
		Marks:  []api.Mark{{Group: "g", Part: at("t", 0), Offset: 4}},
	}
}

// rich is a state that has several of all: topics, logs of several segments, compacted ones and ones that do not begin at 0, producers of several epochs, groups of both ways and without members, marks.
func rich() api.State {
	member := func(name string, topics ...string) api.Member { return api.Member{Name: name, Topics: topics} }
	return api.State{
		Room: 4, Now: 5,
		Topics: []api.Topic{{Name: "a", N: 1}, {Name: "b-2", N: 2}, {Name: "t", N: 3}},
		Logs: []api.Logged{
			{Part: at("a", 0), Segs: []api.Seg{
				{Base: 3, Next: 5, L: found(3, keyed("", "10"), value("11"))},
				{Base: 5, Next: 9, L: found(5, tomb(""), value("12"), value("13"), value("14"))},
			}},
			{Part: at("b-2", 0), Segs: []api.Seg{{}}},
			{Part: at("b-2", 1), Segs: []api.Seg{{}}},
			{Part: at("t", 0), Segs: []api.Seg{
				{Base: 0, Next: 2, L: found(1, value("2"))},
				{Base: 2, Next: 6, L: []api.Found{{Offset: 2, R: keyed("k", "3")}, {Offset: 5, R: keyed("l", "6")}}},
				{Base: 6, Next: 300},
				{Base: 300, Next: 301, L: found(300, keyed("k", strings.Repeat("v", 200)))},
			}},
			{Part: at("t", 1), Segs: []api.Seg{{Base: most, Next: most}}},
			{Part: at("t", 2), Segs: []api.Seg{{Base: 0, Next: 1, L: found(0, value("5"))}}},
		},
		Epochs: []int{0, 1, 0},
		Makers: []api.Maker{
			{Id: 1, Part: at("t", 0), Last: []api.Did{{Seq: 0, N: 2, Offset: 0}, {Seq: 2, N: 3, Offset: 2}}},
			{Id: 1, Part: at("t", 2), Last: []api.Did{{Seq: 0, N: 1, Offset: 0}}},
			{Id: 2, Epoch: 1, Part: at("a", 0), Last: []api.Did{{Seq: 0, N: 4, Offset: 5}}},
			{Id: 2, Epoch: 1, Part: at("t", 0), Last: []api.Did{{Seq: 0, N: 1, Offset: 5}}},
		},
		Groups: []api.Grouped{
			{Name: "e", Gen: 2},
			{Name: "g", Gen: 2, Seats: []api.Seat{{M: member("m", "a", "t"), Timeout: 9, Seen: 5}, {M: member("n", "t"), Timeout: 5, Seen: 3}}},
			{Name: "h", Gen: 2, Robin: true, Seats: []api.Seat{{M: member("x", "a", "b-2"), Timeout: most, Seen: 3}, {M: member("y", "b-2", "no-such"), Timeout: 7, Seen: 3}}},
		},
		Marks: []api.Mark{
			{Group: "g", Part: at("a", 0), Offset: 9}, {Group: "g", Part: at("t", 0), Offset: 3},
			{Group: "h", Part: at("a", 0), Offset: 3}, {Group: "h", Part: at("b-2", 0), Offset: 0},
		},
	}
}

// catalog is a state of topics, each of so many partitions, and an empty log of each partition.
func catalog(n int, names ...string) api.State {
	s := api.State{Room: 2}
	for _, name := range names {
		s.Topics = append(s.Topics, api.Topic{Name: name, N: n})
		for i := range n {
			s.Logs = append(s.Logs, api.Logged{Part: at(name, i), Segs: []api.Seg{{}}})
		}
	}
	return s
}

// full is a state that has as much as it may have of all that has a limit, and greatest numbers.
func full() api.State {
	var names []string
	for i := range 8 {
		names = append(names, "0123456789abcde"+strconv.Itoa(i))
	}
	s := catalog(8, names...)
	s.Room, s.Now = 64, most
	for id := 1; id <= 32; id++ {
		s.Epochs = append(s.Epochs, most)
		for _, g := range s.Logs {
			last := []api.Did{{Seq: most - 4, N: 1, Offset: most}, {Seq: most - 3, N: 1}, {Seq: most - 2, N: 1}, {Seq: most - 1, N: 1}, {Seq: most, N: most}}
			s.Makers = append(s.Makers, api.Maker{Id: id, Epoch: most, Part: g.Part, Last: last})
		}
	}
	for i := range 8 {
		g := api.Grouped{Name: names[i], Gen: most, Robin: i%2 == 1}
		for j := range 8 {
			g.Seats = append(g.Seats, api.Seat{M: api.Member{Name: names[j], Topics: another(names)}, Timeout: most, Seen: most})
		}
		s.Groups = append(s.Groups, g)
		for _, l := range s.Logs {
			s.Marks = append(s.Marks, api.Mark{Group: names[i], Part: l.Part, Offset: most})
		}
	}
	for i := range s.Logs {
		s.Logs[i].Segs = []api.Seg{{Base: most - 64, Next: most}}
		if i%7 == 0 {
			for j := range 64 {
				s.Logs[i].Segs[0].L = append(s.Logs[i].Segs[0].L, api.Found{Offset: most - 64 + j, R: keyed(strings.Repeat("k", j+1), strings.Repeat("v", i*8))})
			}
		}
	}
	return s
}

// states are some that may be, by names.
func states(t *testing.T) map[string]api.State {
	t.Helper()
	two := []api.Record{value("1"), keyed("k", "2")}
	topic := api.Op{Kind: api.OpTopic, Part: at("t", 0), N: 2}
	send := func(id, seq int) api.Op {
		return api.Op{Kind: api.OpProduce, Part: at("t", 1), Batch: api.Batch{Producer: id, Seq: seq, Records: two}}
	}
	join := api.Op{Kind: api.OpJoin, Group: "g", Member: "m", N: 5, Topics: []string{"t"}}
	beside := one()
	beside.Topics, beside.Epochs, beside.Makers, beside.Marks = []api.Topic{}, []int{}, []api.Maker{}, []api.Mark{}
	beside.Logs, beside.Groups = []api.Logged{}, []api.Grouped{{Name: "g", Seats: []api.Seat{}}}
	return map[string]api.State{
		"new, room 1":         done(t, 1),
		"new, room 64":        done(t, 64),
		"topics":              done(t, 2, topic, api.Op{Kind: api.OpTopic, Part: at("a", 0), N: 8}),
		"epochs":              done(t, 2, api.Op{Kind: api.OpProducer}, api.Op{Kind: api.OpProducer}, api.Op{Kind: api.OpProducer, N: 1}),
		"batches of nobody":   done(t, 2, topic, send(0, 0), send(0, 0), send(0, 0)),
		"makers":              done(t, 2, topic, api.Op{Kind: api.OpProducer}, send(1, 0), send(1, 2), send(1, 4), send(1, 6), send(1, 8), send(1, 10)),
		"retained, compacted": done(t, 2, topic, send(0, 0), send(0, 0), send(0, 0), api.Op{Kind: api.OpCompact, Part: at("t", 1)}, api.Op{Kind: api.OpRetain, Part: at("t", 1), Offset: 3}),
		"groups":              done(t, 2, join, api.Op{Kind: api.OpJoin, Group: "h", Member: "n", N: 1, Robin: true, Topics: []string{"a", "b"}}),
		"a group of nobody":   done(t, 2, join, api.Op{Kind: api.OpLeave, Group: "g", Member: "m", Gen: 1}),
		"marks":               done(t, 2, topic, send(0, 0), join, api.Op{Kind: api.OpCommit, Group: "g", Member: "m", Gen: 1, Part: at("t", 1), Offset: 2}, api.Op{Kind: api.OpCommit, Group: "g", Member: "m", Gen: 1, Part: at("t", 0)}),
		"time":                done(t, 2, api.Op{Kind: api.OpTick, N: most}),
		"one":                 one(),
		"rich":                rich(),
		"full":                full(),
		"empty lists":         beside,
		"names":               catalog(1, "-", "0", "a", "a0", "b", "c", "z", "zzzzzzzzzzzzzzzz"),
	}
}
