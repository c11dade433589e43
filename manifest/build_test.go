package manifest

import (
	"slices"
	"strconv"
	"strings"
	"testing"

	"stagecoach/api"
	"stagecoach/broker"
)

// P14.4

func TestBuild(t *testing.T) {
	for name, s := range states(t) {
		small := mustSmall(t, s)
		m, texts := mustMake(t, s)
		got, e := Build(m, small, texts)
		if e != api.OK || !same(got, s) {
			t.Errorf("%s: %+v, %d, want %+v", name, got, e, s)
		}
	}
}

// set is all that Build is handed in.
type set struct {
	m     api.Manifest
	small string
	texts []string
}

// setOf is what a state is built of; the state need not be one that may be, but its segments need.
func setOf(s api.State) *set {
	m, texts := plainMake(s)
	return &set{m, plainSmall(s), texts}
}

// put puts a segment into the place of a piece, with its right digest.
func (x *set) put(i int, p api.Part, g api.Seg) {
	x.texts[i] = plainText(g)
	x.m.Pieces[i] = api.Piece{Part: p, Base: g.Base, Next: g.Next, Digest: plainDigest(x.texts[i])}
}

// say puts a text into the place of a piece's, with its right digest.
func (x *set) say(i int, text string) {
	x.texts[i] = text
	x.m.Pieces[i].Digest = plainDigest(text)
}

// tell puts another small text, with its right digest.
func (x *set) tell(small string) {
	x.small, x.m.Small = small, plainDigest(small)
}

// keep lets all pieces go but some, in that order.
func (x *set) keep(l ...int) {
	var m api.Manifest
	var texts []string
	for _, i := range l {
		m.Pieces, texts = append(m.Pieces, x.m.Pieces[i]), append(texts, x.texts[i])
	}
	x.m.Pieces, x.texts = m.Pieces, texts
}

// The pieces of rich() are: a 0: 0, 1; b-2 0: 2; b-2 1: 3; t 0: 4, 5, 6, 7; t 1: 8; t 2: 9.

// others are changes that make texts others than the manifest tells of.
func others() map[string]func(x *set) {
	return map[string]func(x *set){
		"another small text":            func(x *set) { x.small = plainSmall(one()) },
		"a small text of one byte more": func(x *set) { x.small += "\x00" },
		"a small text cut short":        func(x *set) { x.small = x.small[:len(x.small)-1] },
		"no small text":                 func(x *set) { x.small = "" },
		"a small text's byte changed":   func(x *set) { x.small = "\x05" + x.small[1:] },
		"another digest of it":          func(x *set) { x.m.Small++ },
		"half its digest":               func(x *set) { x.m.Small = x.m.Small >> 32 << 32 },
		"no texts":                      func(x *set) { x.texts = nil },
		"a text too few":                func(x *set) { x.texts = x.texts[:9] },
		"the first text gone":           func(x *set) { x.texts = x.texts[1:] },
		"a text too many":               func(x *set) { x.texts = append(x.texts, x.texts[9]) },
		"an empty text too many":        func(x *set) { x.texts = append(x.texts, "") },
		"a piece too few":               func(x *set) { x.m.Pieces = x.m.Pieces[:9] },
		"a piece too many":              func(x *set) { x.m.Pieces = append(x.m.Pieces, x.m.Pieces[9]) },
		"no pieces":                     func(x *set) { x.m.Pieces = nil },
		"the first text of one byte more": func(x *set) {
			x.texts[0] += "\x00"
		},
		"the last text cut short": func(x *set) { x.texts[9] = x.texts[9][:len(x.texts[9])-1] },
		"an empty text":           func(x *set) { x.texts[5] = "" },
		"two texts the wrong way round": func(x *set) {
			x.texts[0], x.texts[1] = x.texts[1], x.texts[0]
		},
		"two pieces the wrong way round": func(x *set) {
			x.m.Pieces[8], x.m.Pieces[9] = x.m.Pieces[9], x.m.Pieces[8]
		},
		"another digest of a piece": func(x *set) { x.m.Pieces[9].Digest++ },
		"half a digest of a piece":  func(x *set) { x.m.Pieces[4].Digest = uint64(uint32(x.m.Pieces[4].Digest)) },
		"digest 0":                  func(x *set) { x.m.Pieces[2].Digest = 0 },
	}
}

// forms are changes that leave the texts those that the manifest tells of, but they are those of no state.
func forms() map[string]func(x *set) {
	return map[string]func(x *set){
		"no small text":                  func(x *set) { x.tell("") },
		"one that is cut short":          func(x *set) { x.tell(x.small[:len(x.small)-1]) },
		"one of one byte more":           func(x *set) { x.tell(x.small + "\x00") },
		"one of a state that may not be": func(x *set) { x.tell("\x00" + x.small[1:]) },
		"one of room for fewer records":  func(x *set) { x.tell("\x03" + x.small[1:]) },
		"one of fewer partitions":        func(x *set) { s := rich(); s.Topics[1].N--; s.Marks = s.Marks[:3]; x.tell(plainSmall(s)) },
		"one of more partitions":         func(x *set) { s := rich(); s.Topics[2].N++; x.tell(plainSmall(s)) },
		"one of more topics": func(x *set) {
			s := rich()
			s.Topics = append(s.Topics, api.Topic{Name: "u", N: 1})
			x.tell(plainSmall(s))
		},
		"one of a topic ahead": func(x *set) {
			s := rich()
			s.Topics = append([]api.Topic{{Name: "0", N: 1}}, s.Topics...)
			x.tell(plainSmall(s))
		},
		"one of another name":              func(x *set) { s := rich(); s.Topics[1].Name, s.Marks = "b-3", nil; x.tell(plainSmall(s)) },
		"one of no topics":                 func(x *set) { x.tell("\x04\x05\x00\x00\x00\x00\x00") },
		"a text that is none":              func(x *set) { x.say(4, "x") },
		"an empty one":                     func(x *set) { x.say(2, "") },
		"one of one byte more that is so":  func(x *set) { x.say(9, x.texts[9]+"\x00") },
		"one that is cut short, and is so": func(x *set) { x.say(0, x.texts[0][:len(x.texts[0])-1]) },
		"one of a number in another way":   func(x *set) { x.say(2, "\x80\x00\x00\x00") },
		"another Base":                     func(x *set) { x.m.Pieces[4].Base = 1 },
		"a Base below 0":                   func(x *set) { x.m.Pieces[4].Base = -1 },
		"another Next":                     func(x *set) { x.m.Pieces[9].Next = 2 },
		"a Next below 0":                   func(x *set) { x.m.Pieces[2].Next = -1 },
		"the one's Base and Next, twice":   func(x *set) { x.m.Pieces[5].Base, x.m.Pieces[5].Next = 0, 2 },
		"another segment's text":           func(x *set) { x.say(4, x.texts[5]) },
		"a segment from below 0 on":        func(x *set) { x.say(2, plainNumber(1<<64-1)+"\x00\x00"); x.m.Pieces[2].Base = -1 },
		"one of another partition":         func(x *set) { x.m.Pieces[2].Part = at("b-2", 1) },
		"one of a partition ahead":         func(x *set) { x.m.Pieces[3].Part = at("b-2", 0) },
		"one of none, as that N is none":   func(x *set) { x.m.Pieces[9].Part.N = 3 },
		"one of an N below 0":              func(x *set) { x.m.Pieces[2].Part.N = -1 },
		"one of none, as there is no such": func(x *set) { x.m.Pieces[3].Part.Topic = "c" },
		"the last one of none":             func(x *set) { x.m.Pieces[7].Part.Topic = "T" },
		"no pieces":                        func(x *set) { x.keep() },
		"the first partition without":      func(x *set) { x.keep(2, 3, 4, 5, 6, 7, 8, 9) },
		"one without":                      func(x *set) { x.keep(0, 1, 2, 4, 5, 6, 7, 8, 9) },
		"the last one without":             func(x *set) { x.keep(0, 1, 2, 3, 4, 5, 6, 7, 8) },
		"all but the last one without":     func(x *set) { x.keep(9) },
		"partitions in another order":      func(x *set) { x.keep(0, 1, 3, 2, 4, 5, 6, 7, 8, 9) },
		"topics in another order":          func(x *set) { x.keep(2, 3, 0, 1, 4, 5, 6, 7, 8, 9) },
		"the other way round":              func(x *set) { x.keep(9, 8, 7, 6, 5, 4, 3, 2, 1, 0) },
		"a partition in two stretches":     func(x *set) { x.keep(0, 2, 1, 3, 4, 5, 6, 7, 8, 9) },
		"one in two, far apart":            func(x *set) { x.keep(0, 1, 2, 3, 4, 5, 6, 8, 9, 7) },
		"a first one again, behind all":    func(x *set) { x.keep(0, 1, 2, 3, 4, 5, 6, 7, 8, 9, 0) },
		"a piece twice":                    func(x *set) { x.keep(0, 1, 2, 3, 4, 5, 5, 6, 7, 8, 9) },
		"one that is between gone":         func(x *set) { x.keep(0, 1, 2, 3, 4, 6, 7, 8, 9) },
		"segments in another order":        func(x *set) { x.keep(0, 1, 2, 3, 5, 4, 6, 7, 8, 9) },
		"one more, of none, behind all":    func(x *set) { x.keep(0, 1, 2, 3, 4, 5, 6, 7, 8, 9, 9); x.m.Pieces[10].Part.N = 3 },
		"a gap between segments":           func(x *set) { x.put(1, at("a", 0), api.Seg{Base: 6, Next: 9}) },
		"segments one over the other":      func(x *set) { x.put(1, at("a", 0), api.Seg{Base: 4, Next: 9}) },
		"more records than there is room": func(x *set) {
			x.put(9, at("t", 2), api.Seg{Base: 0, Next: 5, L: found(0, value("0"), value("1"), value("2"), value("3"), value("4"))})
		},
	}
}

func TestBuildRefuses(t *testing.T) {
	for name, change := range others() {
		x := setOf(rich())
		change(x)
		if e := builds(t, x.m, x.small, x.texts); e != api.ErrManifestOther {
			t.Errorf("%s: %d", name, e)
		}
	}
	for name, change := range forms() {
		x := setOf(rich())
		change(x)
		if e := builds(t, x.m, x.small, x.texts); e != api.ErrManifestForm {
			t.Errorf("%s: %d", name, e)
		}
	}
	// As it is, it is built.
	x := setOf(rich())
	if e := builds(t, x.m, x.small, x.texts); e != api.OK {
		t.Error(e)
	}
}

// That texts are others is told first, whatever the other fault, and wherever the one and the other is.
func TestOfTwoErrorsTheFirst(t *testing.T) {
	met := map[api.Errno]int{}
	for other, spoil := range others() {
		for form, change := range forms() {
			x := setOf(rich())
			change(x)
			if len(x.texts) < 10 || x.small == "" {
				// The other change needs what went.
				continue
			}
			// A few make good what the first one changed.
			spoil(x)
			met[builds(t, x.m, x.small, x.texts)]++
			if t.Failed() {
				t.Fatalf("%s, %s", other, form)
			}
		}
	}
	if met[api.ErrManifestOther] < 500 || met[api.ErrManifestForm]+met[api.OK] > 20 {
		t.Errorf("%v", met)
	}
	for i, change := range []func(x *set){
		func(x *set) { x.tell("x"); x.texts[9] += "x" },
		func(x *set) { x.tell("x"); x.texts = x.texts[1:] },
		func(x *set) { x.tell("x"); x.texts = append(x.texts, "x") },
		func(x *set) { x.say(0, "x"); x.small += "x" },
		func(x *set) { x.say(0, "x"); x.texts[1] += "x" },
		func(x *set) { x.say(0, "x"); x.texts = x.texts[:1] },
		func(x *set) { x.m.Pieces[0].Base = 9; x.m.Pieces[9].Digest++ },
		func(x *set) { x.keep(9, 8); x.m.Small++ },
		func(x *set) { x.keep(9, 8); x.texts[1] += "x" },
		func(x *set) { x.m.Small++; x.m.Pieces, x.texts = nil, nil },
		func(x *set) { x.tell("\x00\x00\x00\x00\x00\x00\x00"); x.texts[3] = "" },
	} {
		x := setOf(rich())
		change(x)
		if e := builds(t, x.m, x.small, x.texts); e != api.ErrManifestOther {
			t.Errorf("%d: %d", i, e)
		}
	}
}

// A text that is changed by one byte is another one, wherever, and so is the small text.
func TestBuildOfOneByteChanged(t *testing.T) {
	x := setOf(one())
	turned := func(s string, i, bit int) string {
		b := []byte(s)
		b[i] ^= 1 << bit
		return string(b)
	}
	for bit := range 8 {
		for i := range x.small {
			if e := builds(t, x.m, turned(x.small, i, bit), x.texts); e != api.ErrManifestOther {
				t.Errorf("%d, %d: %d", i, bit, e)
			}
			y := setOf(one())
			y.tell(turned(x.small, i, bit))
			builds(t, y.m, y.small, y.texts)
		}
		for j, s := range x.texts {
			for i := range s {
				y := setOf(one())
				y.texts[j] = turned(s, i, bit)
				if e := builds(t, y.m, y.small, y.texts); e != api.ErrManifestOther {
					t.Errorf("%d, %d, %d: %d", j, i, bit, e)
				}
				// Said to be right it may be one, of other records.
				y.say(j, y.texts[j])
				builds(t, y.m, y.small, y.texts)
			}
		}
	}
}

// What else is right is built, though no broker told it.
func TestBuildOfOthersThatAreRight(t *testing.T) {
	for name, change := range map[string]func(x *set, s *api.State){
		"two texts that are the same, the wrong way round": func(x *set, s *api.State) { x.texts[2], x.texts[3] = x.texts[3], x.texts[2] },
		"a segment's records": func(x *set, s *api.State) {
			s.Logs[0].Segs[1].L[0].R = value("another")
			x.put(1, at("a", 0), s.Logs[0].Segs[1])
		},
		"a further segment": func(x *set, s *api.State) {
			s.Logs[5].Segs = append(s.Logs[5].Segs, api.Seg{Base: 1, Next: 1})
			x.keep(0, 1, 2, 3, 4, 5, 6, 7, 8, 9, 9)
			x.put(10, at("t", 2), s.Logs[5].Segs[1])
		},
		"the last segment gone": func(x *set, s *api.State) {
			s.Logs[3].Segs = s.Logs[3].Segs[:3]
			x.keep(0, 1, 2, 3, 4, 5, 6, 8, 9)
		},
		"the first one gone": func(x *set, s *api.State) {
			s.Logs[0].Segs = s.Logs[0].Segs[1:]
			x.keep(1, 2, 3, 4, 5, 6, 7, 8, 9)
		},
		"another small text": func(x *set, s *api.State) {
			s.Now, s.Makers, s.Room = most, nil, 64
			x.tell(plainSmall(*s))
		},
	} {
		s := rich()
		x := setOf(s)
		change(x, &s)
		if got, e := Build(x.m, x.small, x.texts); e != api.OK || !same(got, s) {
			t.Errorf("%s: %+v, %d, want %+v", name, got, e, s)
		}
		builds(t, x.m, x.small, x.texts)
	}
}

// A state without partitions has no pieces, and needs none.
func TestBuildOfNoPieces(t *testing.T) {
	small := "\x01\x00\x00\x00\x00\x00\x00"
	m := api.Manifest{Small: plainDigest(small)}
	for _, texts := range [][]string{nil, {}} {
		if got, e := Build(m, small, texts); e != api.OK || !same(got, api.State{Room: 1}) {
			t.Errorf("%+v, %d", got, e)
		}
	}
	if e := builds(t, m, small, []string{""}); e != api.ErrManifestOther {
		t.Error(e)
	}
	// Of nothing: no bytes have digest 0, but are no small text.
	if e := builds(t, api.Manifest{}, "", nil); e != api.ErrManifestForm {
		t.Error(e)
	}
	m.Pieces = []api.Piece{{Digest: plainDigest("\x00\x00\x00")}}
	if e := builds(t, m, small, []string{"\x00\x00\x00"}); e != api.ErrManifestForm {
		t.Error(e)
	}
	if e := builds(t, m, small, nil); e != api.ErrManifestOther {
		t.Error(e)
	}
}

// States that broker.Load does not take are not built.
func TestBuildOfStatesThatMayNotBe(t *testing.T) {
	logs, rest := broken()
	for i, change := range append(logs, rest...) {
		s := one()
		change(&s)
		x := setOf(s)
		if e := builds(t, x.m, x.small, x.texts); e != api.ErrManifestForm {
			t.Errorf("%d: %d", i, e)
		}
	}
}

// Whatever is changed, the answer is the plain one's.
func TestBuildOfAny(t *testing.T) {
	met := map[api.Errno]int{}
	for seed := range 4000 {
		c := chance(seed)
		s := rich()
		if c.below(3) == 0 {
			s = one()
		}
		x := setOf(s)
		for range c.below(4) {
			x.vary(&c)
		}
		met[builds(t, x.m, x.small, x.texts)]++
	}
	for _, e := range []api.Errno{api.OK, api.ErrManifestForm, api.ErrManifestOther} {
		if met[e] < 100 {
			t.Errorf("%d: %d times", e, met[e])
		}
	}
}

// vary changes something.
func (x *set) vary(c *chance) {
	if len(x.m.Pieces) == 0 || len(x.texts) != len(x.m.Pieces) {
		return
	}
	i, j := c.below(len(x.texts)), c.below(len(x.texts))
	p := &x.m.Pieces[i]
	switch c.below(12) {
	case 0:
		p.Base += c.below(3) - 1
	case 1:
		p.Next += c.below(3) - 1
	case 2:
		p.Part = x.m.Pieces[j].Part
	case 3:
		p.Part.N += c.below(3) - 1
	case 4:
		b := []byte(x.texts[i])
		b[c.below(len(b))] ^= 1 << c.below(8)
		x.texts[i] = string(b)
		if c.below(4) > 0 {
			x.say(i, x.texts[i])
		}
	case 5:
		x.texts[i], x.texts[j] = x.texts[j], x.texts[i]
	case 6:
		x.m.Pieces[i], x.m.Pieces[j] = x.m.Pieces[j], x.m.Pieces[i]
		x.texts[i], x.texts[j] = x.texts[j], x.texts[i]
	case 7:
		x.keep(slices.Sorted(slices.Values([]int{0, i, j}))...)
	case 8:
		b := []byte(x.small)
		if len(b) == 0 {
			return
		}
		b[c.below(len(b))] ^= 1 << c.below(8)
		x.tell(string(b))
	case 9:
		x.put(i, p.Part, api.Seg{Base: max(0, p.Base), Next: max(0, p.Base, p.Next)})
	case 10:
		if end := p.Next; end > 0 {
			x.put(i, p.Part, api.Seg{Base: end - 1, Next: end, L: found(end-1, keyed("k", strconv.Itoa(j)))})
		}
	case 11:
		if c.below(4) == 0 {
			x.texts = x.texts[:i]
		}
	}
}

// P14.5

// walk does commands of all kinds by chance, and tells the states between.
func walk(t *testing.T, seed, steps int) []api.State {
	t.Helper()
	c := chance(seed)
	b, e := broker.New(1 + seed%5)
	if e != api.OK {
		t.Fatal(e)
	}
	states := []api.State{b.State()}
	for range steps {
		b.Do(draw(&c, states[len(states)-1]))
		states = append(states, b.State())
	}
	return states
}

// draw draws a command by chance, near to what a broker in that state may do.
func draw(c *chance, s api.State) api.Op {
	topics, names := []string{"a", "b", "t"}, []string{"k", "l", "m", "n"}
	o := api.Op{Part: at(topics[c.below(3)], c.below(2)), Group: "g" + strconv.Itoa(c.below(3)), Member: names[c.below(4)]}
	for _, g := range s.Groups {
		if g.Name == o.Group {
			o.Gen = g.Gen
		}
	}
	last := 0
	for _, g := range s.Logs {
		if g.Part == o.Part {
			last = g.Segs[len(g.Segs)-1].Next
		}
	}
	switch c.below(12) {
	case 0:
		return api.Op{Kind: api.OpTopic, Part: api.Part{Topic: o.Part.Topic}, N: 1 + c.below(3)}
	case 1:
		return api.Op{Kind: api.OpProducer, N: c.below(4) * c.below(2)}
	case 2, 3, 4, 5:
		return send(c, s, o.Part)
	case 6:
		return api.Op{Kind: api.OpRetain, Part: o.Part, Offset: max(0, last-c.below(9))}
	case 7:
		return api.Op{Kind: api.OpCompact, Part: o.Part}
	case 8:
		return api.Op{Kind: api.OpJoin, Group: o.Group, Member: o.Member, N: 1 + c.below(9), Robin: c.below(5) == 0, Topics: [][]string{{"a", "b", "t"}, {"t"}, {"b", "t"}, {"a", "u"}}[c.below(4)]}
	case 9:
		return api.Op{Kind: api.OpLeave, Group: o.Group, Member: o.Member, Gen: o.Gen}
	case 10:
		return api.Op{Kind: api.OpCommit, Group: o.Group, Member: o.Member, Gen: o.Gen, Part: o.Part, Offset: max(0, last-c.below(3))}
	}
	return api.Op{Kind: api.OpTick, N: c.below(3)}
}

// send draws a batch that is due, or one of nobody.
func send(c *chance, s api.State, p api.Part) api.Op {
	o := api.Op{Kind: api.OpProduce, Part: p}
	for range 1 + c.below(3) {
		o.Batch.Records = append(o.Batch.Records, []api.Record{value("v"), keyed("k", strconv.Itoa(c.below(99))), keyed("l", strings.Repeat("v", c.below(99))), tomb("k"), keyed("", "")}[c.below(5)])
	}
	id := c.below(4)
	if id == 0 || id > len(s.Epochs) {
		return o
	}
	o.Batch.Producer, o.Batch.Epoch = id, s.Epochs[id-1]
	for _, m := range s.Makers {
		if m.Id == id && m.Part == p {
			d := m.Last[len(m.Last)-1]
			o.Batch.Seq = d.Seq + d.N
		}
	}
	return o
}

// A state, in pieces, is built as it was, and so is each that comes to be of it; who has some pieces needs the missing ones alone.
func TestAStateInPiecesIsBuiltAsItWas(t *testing.T) {
	spared, met := 0, api.State{}
	for seed := range 40 {
		l := walk(t, seed, 250)
		c := chance(seed)
		for i := 0; i < len(l); i += 1 + c.below(20) {
			s := l[i]
			small := mustSmall(t, s)
			m, texts := mustMake(t, s)
			if want, wantTexts := plainMake(s); small != plainSmall(s) || !sameManifest(m, want) || !slices.Equal(texts, wantTexts) {
				t.Fatalf("%d, %d: %q, %+v, %q", seed, i, small, m, texts)
			}
			got, e := Build(m, small, texts)
			if e != api.OK || !same(got, s) {
				t.Fatalf("%d, %d: %+v, %d, want %+v", seed, i, got, e, s)
			}
			spared += needs(t, l[c.below(i+1)], s, m, small, texts)
		}
		s := l[len(l)-1]
		met.Topics, met.Makers, met.Groups, met.Marks = append(met.Topics, s.Topics...), append(met.Makers, s.Makers...), append(met.Groups, s.Groups...), append(met.Marks, s.Marks...)
	}
	if spared < 1000 || len(met.Topics) == 0 || len(met.Makers) == 0 || len(met.Groups) == 0 || len(met.Marks) == 0 {
		t.Errorf("%d pieces were there already, of %+v", spared, met)
	}
}

// needs builds a state of the pieces that another one has and of those that are missing alone, and tells how many were there.
func needs(t *testing.T, had, s api.State, m api.Manifest, small string, texts []string) int {
	t.Helper()
	have, hadTexts := mustMake(t, had)
	missing := Missing(have, m)
	if !slices.Equal(missing, plainMissing(have, m)) || !slices.IsSorted(missing) {
		t.Fatalf("Missing(%+v, %+v): %v", have, m, missing)
	}
	there := map[api.Piece]string{}
	for i, p := range have.Pieces {
		there[p] = hadTexts[i]
	}
	l := make([]string, len(texts))
	for i, p := range m.Pieces {
		l[i] = there[p]
	}
	for _, i := range missing {
		l[i] = texts[i]
	}
	got, e := Build(m, small, l)
	if e != api.OK || !same(got, s) {
		t.Fatalf("of those that are there and missing: %+v, %d, want %+v", got, e, s)
	}
	// Without any one of them it is not built.
	for _, i := range missing {
		l[i] = ""
		if _, e := Build(m, small, l); e != api.ErrManifestOther {
			t.Fatalf("without %d: %d", i, e)
		}
		l[i] = texts[i]
	}
	return len(texts) - len(missing)
}

// Of a log that grew, the segments that were full are there.
func TestOfALogThatGrewTheLastSegmentsAreMissing(t *testing.T) {
	ops := []api.Op{{Kind: api.OpTopic, Part: at("t", 0), N: 2}}
	for i := range 7 {
		ops = append(ops, api.Op{Kind: api.OpProduce, Part: at("t", 0), Batch: api.Batch{Records: []api.Record{value(strconv.Itoa(i))}}})
	}
	// Segments of two: 0 1, 2 3, 4 (5, 6).
	was, _ := mustMake(t, done(t, 2, ops[:6]...))
	now, _ := mustMake(t, done(t, 2, ops...))
	if got := Missing(was, now); !slices.Equal(got, []int{2, 3}) {
		t.Errorf("%v are missing", got)
	}
	if got := Missing(now, was); !slices.Equal(got, []int{2}) {
		t.Errorf("back: %v are missing", got)
	}
}

// A broker that is loaded with what was built answers as the one that told it.
func TestWhatIsBuiltAnswersAlike(t *testing.T) {
	for seed := range 20 {
		l := walk(t, seed, 100)
		s := l[len(l)-1]
		m, texts := mustMake(t, s)
		got, e := Build(m, mustSmall(t, s), texts)
		if e != api.OK {
			t.Fatal(e)
		}
		a, e1 := broker.Load(s)
		b, e2 := broker.Load(got)
		if e1 != api.OK || e2 != api.OK {
			t.Fatal(e1, e2)
		}
		c := chance(seed)
		for range 200 {
			o := draw(&c, a.State())
			if x, y := a.Do(o), b.Do(o); x.E != y.E || x.Offset != y.Offset || x.N != y.N || x.Gen != y.Gen {
				t.Fatalf("%d: Do(%+v): %+v, %+v", seed, o, x, y)
			}
		}
		if !same(a.State(), b.State()) {
			t.Errorf("%d: they differ", seed)
		}
	}
}
