package group

import (
	"math"
	"runtime"
	"slices"
	"strconv"
	"strings"
	"testing"

	"stagecoach/api"
	"stagecoach/assign"
)

const most = 1 << 40 // the greatest generation, time and timeout

// plain is a group as the chapter's words say it: a list of seats in the order in which they came, and each answer made by going over all of it.
type plain struct {
	gen   int
	robin bool
	l     []api.Seat
}

// isName is of 1 to 16 bytes, each a to z, 0 to 9, or -.
func isName(s string) bool {
	return 1 <= len(s) && len(s) <= 16 && strings.Trim(s, "abcdefghijklmnopqrstuvwxyz0123456789-") == ""
}

// below holds names against each other byte by byte.
func below(a, b string) bool {
	for i := 0; i < len(a) && i < len(b); i++ {
		if a[i] != b[i] {
			return a[i] < b[i]
		}
	}
	return len(a) < len(b)
}

func mayBe(s api.Seat) bool {
	for i, name := range s.M.Topics {
		if !isName(name) || i > 0 && !below(s.M.Topics[i-1], name) {
			return false
		}
	}
	n := len(s.M.Topics)
	return isName(s.M.Name) && n >= 1 && n <= 8 && s.Timeout >= 1 && s.Timeout <= most && s.Seen >= 0 && s.Seen <= most
}

// apart is a seat that shares no list with another one.
func apart(s api.Seat) api.Seat {
	s.M.Topics = slices.Clone(s.M.Topics)
	return s
}

// place is where a member is; -1, if there is none.
func (p *plain) place(name string) int {
	for i, s := range p.l {
		if s.M.Name == name {
			return i
		}
	}
	return -1
}

func (p *plain) join(s api.Seat, robin bool) (int, api.Errno) {
	i := p.place(s.M.Name)
	switch {
	case !mayBe(s):
		return 0, 1
	case len(p.l) > 0 && p.robin != robin:
		return 0, 112
	case len(p.l) == 8 && i < 0:
		return 0, 2
	case p.gen == most:
		return 0, 2
	case i < 0:
		p.l = append(p.l, apart(s))
	default:
		p.l[i] = apart(s)
	}
	p.robin = robin
	p.gen++
	return p.gen, 0
}

func (p *plain) fence(name string, gen int) api.Errno {
	switch {
	case p.place(name) < 0:
		return 110
	case p.gen != gen:
		return 111
	}
	return 0
}

func (p *plain) beat(name string, gen, now int) api.Errno {
	if now < 0 || now > most {
		return 1
	}
	if e := p.fence(name, gen); e != 0 {
		return e
	}
	if s := &p.l[p.place(name)]; now > s.Seen {
		s.Seen = now
	}
	return 0
}

// further is the generation behind one.
func (p *plain) further() {
	if p.gen < most {
		p.gen++
	}
}

func (p *plain) leave(name string, gen int) api.Errno {
	if e := p.fence(name, gen); e != 0 {
		return e
	}
	i := p.place(name)
	p.l = slices.Delete(p.l, i, i+1)
	p.further()
	return 0
}

func (p *plain) expire(now int) []string {
	var stay []api.Seat
	var gone []string
	for _, s := range p.seats() {
		// So many ticks have gone by since it was heard last.
		if now < s.Seen || now-s.Seen < s.Timeout {
			stay = append(stay, s)
		} else {
			gone = append(gone, s.M.Name)
		}
	}
	if len(gone) > 0 {
		p.l = stay
		p.further()
	}
	return gone
}

func (p *plain) assigned(name string, gen int, l []api.Topic) ([]api.Part, api.Errno) {
	var m []api.Member
	for _, s := range p.seats() {
		m = append(m, s.M)
	}
	if e := assign.Check(l, m); e != 0 {
		return nil, e
	}
	if e := p.fence(name, gen); e != 0 {
		return nil, e
	}
	a, _ := assign.Range(l, m)
	if p.robin {
		a, _ = assign.Robin(l, m)
	}
	for i := range m {
		if m[i].Name == name {
			return a[i], 0
		}
	}
	return nil, -1
}

// seats are all of them, each one put in its place.
func (p *plain) seats() []api.Seat {
	var l []api.Seat
	for _, s := range p.l {
		at := 0
		for at < len(l) && below(l[at].M.Name, s.M.Name) {
			at++
		}
		l = slices.Insert(l, at, apart(s))
	}
	return l
}

func (p *plain) copy() *plain {
	return &plain{gen: p.gen, robin: p.robin, l: p.seats()}
}

func sameSeat(a, b api.Seat) bool {
	return a.M.Name == b.M.Name && slices.Equal(a.M.Topics, b.M.Topics) && a.Timeout == b.Timeout && a.Seen == b.Seen
}

func sameSeats(a, b []api.Seat) bool {
	return slices.EqualFunc(a, b, sameSeat)
}

func seat(name string, timeout, seen int, topics ...string) api.Seat {
	return api.Seat{M: api.Member{Name: name, Topics: topics}, Timeout: timeout, Seen: seen}
}

func topic(name string, n int) api.Topic {
	return api.Topic{Name: name, N: n}
}

// of are partitions of a topic.
func of(topic string, numbers ...int) []api.Part {
	var l []api.Part
	for _, n := range numbers {
		l = append(l, api.Part{Topic: topic, N: n})
	}
	return l
}

// numbers are at the edges.
func numbers() []int {
	return []int{math.MinInt, -most, -1 << 32, -1, 0, 1, 2, 1 << 32, most - 1, most, most + 1, 1 << 41, math.MaxInt - 1, math.MaxInt}
}

// others are the members' names, such as are near to them, and such as are no names.
func others(l []api.Seat) []string {
	names := []string{"", "no-such", "M", "m\x00", "\xff", strings.Repeat("m", 17)}
	for _, s := range l {
		name := s.M.Name
		names = append(names, name, name+"-", name[1:], name[:len(name)-1], strings.ToUpper(name), " "+name)
	}
	return names
}

// lists are topics that may be, and two that may not.
func lists() [][]api.Topic {
	return [][]api.Topic{nil, {}, {topic("t", 1)}, {topic("t", 8)}, {topic("a", 3), topic("t", 4)}, {topic("a", 5), topic("b", 1), topic("no-such", 2), topic("t", 3)}, {topic("t", 0)}, make([]api.Topic, 9)}
}

// tells tells where a group's state and its plain one's differ.
func tells(t *testing.T, g *Group, p *plain) {
	t.Helper()
	if gen, robin := g.Gen(); gen != p.gen || robin != p.robin {
		t.Fatalf("Gen: %d, %v, want %d, %v", gen, robin, p.gen, p.robin)
	}
	if got, want := g.Seats(), p.seats(); !sameSeats(got, want) {
		t.Fatalf("Seats: %v, want %v", got, want)
	}
}

// match tells where a group and its plain one differ, in all that asking tells.
func match(t *testing.T, g *Group, p *plain) {
	t.Helper()
	tells(t, g, p)
	for _, name := range others(p.l) {
		for _, gen := range append(numbers(), p.gen-1, p.gen, p.gen+1) {
			if got, want := g.Fence(name, gen), p.fence(name, gen); got != want {
				t.Fatalf("Fence(%q, %d): %d, want %d", name, gen, got, want)
			}
		}
		for _, gen := range []int{p.gen, p.gen - 1, math.MaxInt} {
			for _, l := range lists() {
				got, e := g.Assigned(name, gen, l)
				want, wantE := p.assigned(name, gen, l)
				if !slices.Equal(got, want) || e != wantE || e != api.OK && got != nil {
					t.Fatalf("Assigned(%q, %d, %v): %v, %d, want %v, %d", name, gen, l, got, e, want, wantE)
				}
			}
		}
	}
	// Asking has changed nothing.
	tells(t, g, p)
}

// loaded is a group in a state, and its plain one.
func loaded(t *testing.T, gen int, robin bool, l ...api.Seat) (*Group, *plain) {
	t.Helper()
	g, e := Load(gen, robin, l)
	if e != api.OK || g == nil {
		t.Fatalf("Load(%d, %v, %v): %v, %d", gen, robin, l, g, e)
	}
	p := &plain{gen: gen, robin: robin, l: l}
	return g, p.copy()
}

func mustJoin(t *testing.T, g *Group, p *plain, s api.Seat, robin bool) {
	t.Helper()
	gen, e := g.Join(s, robin)
	want, wantE := p.join(s, robin)
	if gen != want || e != api.OK || wantE != api.OK {
		t.Fatalf("Join(%v, %v): %d, %d, want %d, %d", s, robin, gen, e, want, wantE)
	}
}

// eight are as many seats as there may be, by rising names.
func eight() []api.Seat {
	return []api.Seat{
		seat("-", 3, 0, "t"), seat("0", 1, 2, "a", "t"), seat("a", 9, 1, "a"), seat("aa", 5, 5, "b", "t"),
		seat("m", 2, 7, "no-such", "t"), seat("m10", 7, 2, "x"), seat("m2", 4, 4, "a", "b", "t"), seat("zzzzzzzzzzzzzzzz", 6, 3, "t"),
	}
}

// ofEight are these, but for one.
func ofEight(i int, s api.Seat) []api.Seat {
	l := eight()
	l[i] = s
	return l
}

// chance is a row of numbers, always the same one, that look like chance.
type chance uint64

func (c *chance) below(n int) int {
	*c = *c*6364136223846793005 + 1442695040888963407
	return int(uint64(*c>>33) % uint64(n))
}

// The chapter's example.

func TestExample(t *testing.T) {
	g := New()
	if gen, e := g.Join(seat("m", 5, 1, "t"), false); gen != 1 || e != api.OK {
		t.Errorf("Join m: %d, %d", gen, e)
	}
	if gen, e := g.Join(seat("n", 5, 0, "t"), false); gen != 2 || e != api.OK {
		t.Errorf("Join n: %d, %d", gen, e)
	}
	if e := g.Beat("m", 1, 1); e != api.ErrGroupGen {
		t.Errorf("Beat m, 1: %d", e)
	}
	if got := g.Expire(5); !slices.Equal(got, []string{"n"}) {
		t.Errorf("Expire: %q", got)
	}
	if gen, robin := g.Gen(); gen != 3 || robin {
		t.Errorf("Gen: %d, %v", gen, robin)
	}
}

func TestNumbersOfApi(t *testing.T) {
	if api.OK != 0 || api.ErrArg != 1 || api.ErrBig != 2 || api.ErrGroupNone != 110 || api.ErrGroupGen != 111 || api.ErrGroupMode != 112 || api.MaxMembers != 8 || api.MaxTopics != 8 || api.MaxOffset != most {
		t.Error("errors and limits are not the chapter's")
	}
}

// P11.1

func TestNew(t *testing.T) {
	g, other := New(), New()
	match(t, g, &plain{})
	if gen, robin := g.Gen(); gen != 0 || robin || len(g.Seats()) != 0 {
		t.Errorf("Gen: %d, %v; Seats: %v", gen, robin, g.Seats())
	}
	for _, now := range numbers() {
		if l := g.Expire(now); len(l) != 0 {
			t.Errorf("Expire(%d): %q", now, l)
		}
	}
	if e := g.Leave("m", 0); e != api.ErrGroupNone {
		t.Errorf("Leave: %d", e)
	}
	if e := g.Beat("m", 0, 1); e != api.ErrGroupNone {
		t.Errorf("Beat: %d", e)
	}
	match(t, g, &plain{})
	// One does not hear of another one.
	p := &plain{}
	mustJoin(t, g, p, seat("m", 1, 0, "t"), true)
	match(t, g, p)
	match(t, other, &plain{})
}

// many are topics, of names that rise.
func many(n int) []string {
	var l []string
	for i := range n {
		l = append(l, "t"+string(rune('a'+i)))
	}
	return l
}

// seatsThatMayBe are at the edges.
func seatsThatMayBe() []api.Seat {
	l := []api.Seat{
		seat("m", 1, 0, "t"), seat("m", 1, 1, "t"), seat("m", 2, most-1, "t"), seat("m", most-1, most, "t"), seat("m", most, most, "t"), seat("m", most, 0, "t"),
	}
	for _, name := range []string{"a", "z", "0", "9", "-", "--", "a0-z9", "0123456789abcdef", "zzzzzzzzzzzzzzzz", "----------------"} {
		l = append(l, seat(name, 5, 1, "t"), seat("m", 5, 1, name), seat(name, 5, 1, name))
	}
	for n := 1; n <= 8; n++ {
		l = append(l, seat("m", 5, 1, many(n)...))
	}
	for _, topics := range [][]string{{"a", "b"}, {"a", "aa"}, {"t10", "t2"}, {"9", "a"}, {"-", "0"}, {"a-", "a0"}} {
		l = append(l, seat("m", 5, 1, topics...))
	}
	return l
}

// seatsThatMayNot are each wrong in one thing, the last ones in several.
func seatsThatMayNot() []api.Seat {
	var l []api.Seat
	for _, name := range []string{
		"", "M", "mM", "m n", " m", "m ", "_", "m_", "m.", "`", "{", "/", ":", ",", ".", "m\x00", "\x00", "m\n", "\x7f", "\x80", "\xff", "m\xff",
		"\u00e9", "\uff41", "\u0430", "\ufffd", "\u0661", "\u2010", "0123456789abcdefg", "0123456789abcde\u00e9", strings.Repeat("m", 1000),
	} {
		l = append(l, seat(name, 5, 1, "t"), seat("m", 5, 1, name), seat("m", 5, 1, "t", name), seat("m", 5, 1, name, "t"), seat("m", 5, 1, "-", name, "zz"))
	}
	for _, topics := range [][]string{
		nil, {}, many(9), many(10), many(20),
		// One stands twice.
		{"t", "t"}, {"a", "t", "t"}, {"t", "t", "u"}, append(many(7), "tg"), append([]string{"ta"}, many(7)...), slices.Repeat([]string{"t"}, 8), slices.Repeat([]string{"t"}, 9),
		// Two are out of order.
		{"b", "a"}, {"aa", "a"}, {"t2", "t10"}, {"a", "9"}, {"0", "-"}, {"a", "c", "b"}, {"b", "a", "c"}, {"a", "b", "a"}, append(many(7), "t"), append([]string{"u"}, many(7)...),
	} {
		l = append(l, seat("m", 5, 1, topics...))
	}
	for _, n := range numbers() {
		if n < 1 || n > most {
			l = append(l, seat("m", n, 1, "t"))
		}
		if n < 0 || n > most {
			l = append(l, seat("m", 5, n, "t"))
		}
	}
	return append(l, api.Seat{}, seat("", 0, -1), seat("M", 5, 1), seat("m", 0, most+1, "t"), seat("m", math.MaxInt, math.MaxInt, many(9)...))
}

// What may be joins, and is loaded.
func TestASeatMayBe(t *testing.T) {
	for i, s := range seatsThatMayBe() {
		if !mayBe(s) {
			t.Fatalf("%d: the plain one says no", i)
		}
		for _, robin := range []bool{false, true} {
			g, p := New(), &plain{}
			mustJoin(t, g, p, s, robin)
			match(t, g, p)
			g, p = loaded(t, 7, robin, seat("m0", 5, 1, "t"))
			mustJoin(t, g, p, s, robin)
			match(t, g, p)
			g, p = loaded(t, 7, robin, s)
			match(t, g, p)
		}
	}
}

// What may not is refused, whoever is there, and by Load too.
func TestASeatMayNot(t *testing.T) {
	for i, s := range seatsThatMayNot() {
		if mayBe(s) {
			t.Fatalf("%d: the plain one says yes", i)
		}
		for _, robin := range []bool{false, true} {
			for _, l := range [][]api.Seat{nil, {seat("m", 4, 2, "a", "b")}, {seat("k", 4, 2, "t")}, eight()} {
				g, p := loaded(t, 7, robin, l...)
				if gen, e := g.Join(s, robin); gen != 0 || e != api.ErrArg {
					t.Errorf("%d: Join(%v): %d, %d", i, s, gen, e)
				}
				tells(t, g, p)
			}
			if g, e := Load(7, robin, []api.Seat{s}); g != nil || e != api.ErrArg {
				t.Errorf("%d: Load of %v: %v, %d", i, s, g, e)
			}
		}
	}
}

func TestJoinOfNewOnes(t *testing.T) {
	for _, robin := range []bool{false, true} {
		g, p := New(), &plain{}
		// Not by rising names.
		l := eight()
		slices.Reverse(l)
		l[0], l[4] = l[4], l[0]
		for i, s := range l {
			if gen, e := g.Join(s, robin); gen != i+1 || e != api.OK {
				t.Fatalf("%d: Join: %d, %d", i, gen, e)
			}
			p.join(s, robin)
			match(t, g, p)
		}
		// A ninth one, of whatever name.
		for _, name := range []string{"b", "zz", "--", "m1", "m20"} {
			if gen, e := g.Join(seat(name, 1, 0, "t"), robin); gen != 0 || e != api.ErrBig {
				t.Errorf("Join of a ninth: %d, %d", gen, e)
			}
			match(t, g, p)
		}
		if got := g.Seats(); !sameSeats(got, eight()) {
			t.Errorf("Seats: %v", got)
		}
		// Those that are there join again, and one takes the place of one that left.
		for _, s := range l {
			s.Seen += 10
			mustJoin(t, g, p, s, robin)
			match(t, g, p)
		}
		if e, want := g.Leave("m10", 16), p.leave("m10", 16); e != api.OK || want != api.OK {
			t.Fatalf("Leave: %d, the plain one says %d", e, want)
		}
		mustJoin(t, g, p, seat("b", 1, 0, "t"), robin)
		match(t, g, p)
		if gen, e := g.Join(seat("m10", 1, 0, "t"), robin); gen != 0 || e != api.ErrBig {
			t.Errorf("Join of the one that left: %d, %d", gen, e)
		}
		match(t, g, p)
	}
}

// The new seat stands instead of the old one, in all that it has, be that less or more.
func TestJoinOfOneThatIsThere(t *testing.T) {
	for i, s := range []api.Seat{
		seat("m", 5, 5, "a", "t"), seat("m", 4, 5, "a", "t"), seat("m", 6, 5, "a", "t"), seat("m", 5, 4, "a", "t"), seat("m", 5, 6, "a", "t"),
		seat("m", 5, 5, "a"), seat("m", 5, 5, "t"), seat("m", 5, 5, "b"), seat("m", 5, 5, "a", "b", "t"), seat("m", 1, 0, "zz"), seat("m", most, most, many(8)...),
	} {
		for _, robin := range []bool{false, true} {
			g, p := loaded(t, 41, robin, seat("k", 3, 3, "t"), seat("m", 5, 5, "a", "t"), seat("n", 3, 3, "t"))
			for gen := 42; gen < 45; gen++ {
				if got, e := g.Join(s, robin); got != gen || e != api.OK {
					t.Fatalf("%d: Join: %d, %d, want %d", i, got, e, gen)
				}
				p.join(s, robin)
				match(t, g, p)
			}
			if got := g.Seats(); len(got) != 3 || !sameSeat(got[1], s) {
				t.Errorf("%d: Seats: %v", i, got)
			}
		}
	}
}

// While there are members the way stays as it is, even for the only one; when all have left it is the next one's.
func TestJoinAnotherWay(t *testing.T) {
	for _, robin := range []bool{false, true} {
		g, p := New(), &plain{}
		mustJoin(t, g, p, seat("m", 5, 0, "t"), robin)
		for _, s := range []api.Seat{seat("n", 5, 0, "t"), seat("m", 5, 0, "t"), seat("m", 6, 1, "a")} {
			if gen, e := g.Join(s, !robin); gen != 0 || e != api.ErrGroupMode {
				t.Errorf("Join(%v, %v): %d, %d", s, !robin, gen, e)
			}
			match(t, g, p)
		}
		mustJoin(t, g, p, seat("n", 5, 0, "t"), robin)
		// One left: there is one still.
		g.Leave("m", 2)
		p.leave("m", 2)
		if gen, e := g.Join(seat("m", 5, 0, "t"), !robin); gen != 0 || e != api.ErrGroupMode {
			t.Errorf("Join while there is one: %d, %d", gen, e)
		}
		match(t, g, p)
		// All left: the way stays till somebody joins.
		left, plainLeft := g.Copy(), p.copy()
		left.Leave("n", 3)
		plainLeft.leave("n", 3)
		match(t, left, plainLeft)
		g.Expire(5)
		p.expire(5)
		match(t, g, p)
		for _, x := range []struct {
			g *Group
			p *plain
		}{{g, p}, {left, plainLeft}} {
			for _, way := range []bool{robin, !robin} {
				one, plainOne := x.g.Copy(), x.p.copy()
				mustJoin(t, one, plainOne, seat("o", 5, 5, "t"), way)
				match(t, one, plainOne)
				if gen, is := one.Gen(); gen != 5 || is != way {
					t.Errorf("Gen: %d, %v, want 5, %v", gen, is, way)
				}
			}
		}
	}
}

func TestJoinUpToTheGreatestGeneration(t *testing.T) {
	for _, robin := range []bool{false, true} {
		for _, l := range [][]api.Seat{nil, {seat("k", 3, 3, "t")}, {seat("m", 3, 3, "t")}, eight()[1:], eight()} {
			g, p := loaded(t, most-2, robin, l...)
			s := seat("m", 9, 9, "b")
			mustJoin(t, g, p, s, robin)
			if gen, e := g.Join(s, robin); gen != most || e != api.OK {
				t.Fatalf("Join to the greatest: %d, %d", gen, e)
			}
			p.join(s, robin)
			match(t, g, p)
			for _, s := range []api.Seat{s, seat("m", 1, 1, "a"), seat("o", 1, 1, "a")} {
				if gen, e := g.Join(s, robin); gen != 0 || e != api.ErrBig {
					t.Errorf("Join behind it: %d, %d", gen, e)
				}
				match(t, g, p)
			}
		}
	}
}

// Where several errors fit the one that is named first is told: that the seat may not be, then the way, then that it is too much.
func TestJoinOfSeveralFaults(t *testing.T) {
	bad, there, other := seat("m", 0, 1, "t"), seat("m", 1, 1, "t"), seat("o", 1, 1, "t")
	for i, x := range []struct {
		gen   int
		l     []api.Seat
		s     api.Seat
		other bool // another way
		e     api.Errno
	}{
		{7, eight(), bad, true, api.ErrArg},
		{7, eight(), seat("o", 1, 1), true, api.ErrArg},
		{7, eight(), seat("o", 1, 1), false, api.ErrArg},
		{7, eight()[4:5], bad, true, api.ErrArg},
		{most, nil, bad, true, api.ErrArg},
		{most, nil, bad, false, api.ErrArg},
		{most, eight(), seat("o", 1, 1), true, api.ErrArg},
		{7, eight(), other, true, api.ErrGroupMode},
		{7, eight(), there, true, api.ErrGroupMode},
		{most, eight(), other, true, api.ErrGroupMode},
		{most, eight(), there, true, api.ErrGroupMode},
		{most, eight()[4:5], other, true, api.ErrGroupMode},
		{most, eight(), other, false, api.ErrBig},
		{most, eight(), there, false, api.ErrBig},
		{most, nil, there, true, api.ErrBig},
		{most, nil, there, false, api.ErrBig},
		{7, eight(), other, false, api.ErrBig},
	} {
		for _, robin := range []bool{false, true} {
			g, p := loaded(t, x.gen, robin, x.l...)
			// Twice, as the first time changes nothing.
			for range 2 {
				if gen, e := g.Join(x.s, robin != x.other); gen != 0 || e != x.e {
					t.Errorf("%d: Join: %d, %d, want %d", i, gen, e, x.e)
				}
				match(t, g, p)
			}
		}
	}
}

// P11.2

func TestFence(t *testing.T) {
	g, p := loaded(t, 7, false, seat("m", 5, 5, "t"), seat("n", 5, 5, "t"))
	for i, x := range []struct {
		name string
		gen  int
		e    api.Errno
	}{
		{"m", 7, api.OK},
		{"n", 7, api.OK},
		// Older ones, later ones, none.
		{"m", 6, api.ErrGroupGen},
		{"m", 8, api.ErrGroupGen},
		{"n", 0, api.ErrGroupGen},
		{"n", -7, api.ErrGroupGen},
		{"n", 1<<32 + 7, api.ErrGroupGen},
		{"n", math.MaxInt, api.ErrGroupGen},
		{"n", math.MinInt, api.ErrGroupGen},
		// No such member, of whatever generation.
		{"o", 7, api.ErrGroupNone},
		{"o", 6, api.ErrGroupNone},
		{"o", 8, api.ErrGroupNone},
		{"", 7, api.ErrGroupNone},
		{"", -1, api.ErrGroupNone},
		{"M", 7, api.ErrGroupNone},
		{"t", 7, api.ErrGroupNone},
		{"mn", math.MaxInt, api.ErrGroupNone},
	} {
		if e := g.Fence(x.name, x.gen); e != x.e {
			t.Errorf("%d: Fence(%q, %d): %d, want %d", i, x.name, x.gen, e, x.e)
		}
	}
	match(t, g, p)
	// In generation 0 too, and in the greatest one.
	for _, gen := range []int{0, most} {
		g, p := loaded(t, gen, true, eight()...)
		for _, s := range eight() {
			if e := g.Fence(s.M.Name, gen); e != api.OK {
				t.Errorf("Fence(%q, %d): %d", s.M.Name, gen, e)
			}
		}
		match(t, g, p)
	}
}

// Who left is no member, and who is there has to know of it.
func TestFenceOfThoseThatLeft(t *testing.T) {
	g, p := loaded(t, 7, false, seat("m", 5, 5, "t"), seat("n", 5, 5, "t"))
	g.Leave("m", 7)
	p.leave("m", 7)
	for _, x := range []struct {
		name string
		gen  int
		e    api.Errno
	}{{"m", 7, api.ErrGroupNone}, {"m", 8, api.ErrGroupNone}, {"n", 7, api.ErrGroupGen}, {"n", 8, api.OK}} {
		if e := g.Fence(x.name, x.gen); e != x.e {
			t.Errorf("Fence(%q, %d): %d, want %d", x.name, x.gen, e, x.e)
		}
	}
	match(t, g, p)
}

func TestBeat(t *testing.T) {
	for i, x := range []struct {
		seen, now, then int
	}{
		// Below, the same, above.
		{5, 4, 5},
		{5, 5, 5},
		{5, 6, 6},
		{5, 0, 5},
		{5, 1000, 1000},
		{0, 0, 0},
		{0, 1, 1},
		{1, 0, 1},
		// At the edges.
		{0, most, most},
		{5, most - 1, most - 1},
		{most - 1, most, most},
		{most, most, most},
		{most, most - 1, most},
		{most, 0, most},
		{1 << 32, 1, 1 << 32},
		{1, 1 << 32, 1 << 32},
	} {
		for _, robin := range []bool{false, true} {
			g, p := loaded(t, 7, robin, seat("k", 3, 3, "t"), seat("m", 9, x.seen, "a", "t"), seat("n", 3, 3, "t"))
			for range 2 {
				if e := g.Beat("m", 7, x.now); e != api.OK {
					t.Errorf("%d: Beat: %d", i, e)
				}
				p.l[1].Seen = x.then
				match(t, g, p)
			}
		}
	}
}

// Of several errors the time's is told first, then that there is no such member, then the generation's.
func TestBeatRefuses(t *testing.T) {
	g, p := loaded(t, 7, false, seat("m", 5, 5, "t"), seat("n", 5, 6, "t"))
	for _, now := range numbers() {
		for i, x := range []struct {
			name string
			gen  int
			e    api.Errno
		}{
			{"o", 7, api.ErrGroupNone},
			{"", 7, api.ErrGroupNone},
			{"o", 6, api.ErrGroupNone},
			{"o", math.MaxInt, api.ErrGroupNone},
			{"m", 6, api.ErrGroupGen},
			{"m", 8, api.ErrGroupGen},
			{"n", -1, api.ErrGroupGen},
			{"n", math.MaxInt, api.ErrGroupGen},
			{"m", 7, api.OK},
		} {
			want := x.e
			if now < 0 || now > most {
				want = api.ErrArg
			}
			if want == api.OK {
				continue
			}
			if e := g.Beat(x.name, x.gen, now); e != want {
				t.Errorf("%d: Beat(%q, %d, %d): %d, want %d", i, x.name, x.gen, now, e, want)
			}
			match(t, g, p)
		}
	}
}

// A beat is heard: who beats is silent from then on.
func TestBeatPutsOff(t *testing.T) {
	g, p := loaded(t, 7, false, seat("m", 5, 5, "t"), seat("n", 5, 5, "t"))
	g.Beat("m", 7, 8)
	p.beat("m", 7, 8)
	if l := g.Expire(9); len(l) != 0 {
		t.Errorf("Expire(9): %q", l)
	}
	if l := g.Expire(12); !slices.Equal(l, []string{"n"}) {
		t.Errorf("Expire(12): %q", l)
	}
	p.expire(12)
	match(t, g, p)
	if e := g.Beat("m", 7, 13); e != api.ErrGroupGen {
		t.Errorf("Beat in the generation that is over: %d", e)
	}
	if e := g.Beat("n", 8, 13); e != api.ErrGroupNone {
		t.Errorf("Beat of one that is out: %d", e)
	}
	match(t, g, p)
	if l := g.Expire(13); !slices.Equal(l, []string{"m"}) {
		t.Errorf("Expire(13): %q", l)
	}
	p.expire(13)
	match(t, g, p)
}

func TestLeave(t *testing.T) {
	for i := range eight() {
		g, p := loaded(t, 7, i%2 == 0, eight()...)
		if e := g.Leave(eight()[i].M.Name, 7); e != api.OK {
			t.Errorf("%d: Leave: %d", i, e)
		}
		p.leave(eight()[i].M.Name, 7)
		match(t, g, p)
		if got := g.Seats(); !sameSeats(got, slices.Delete(eight(), i, i+1)) {
			t.Errorf("%d: Seats: %v", i, got)
		}
		if gen, robin := g.Gen(); gen != 8 || robin != (i%2 == 0) {
			t.Errorf("%d: Gen: %d, %v", i, gen, robin)
		}
	}
}

// One after the other, the last one too: then there is the generation alone, and the way.
func TestLeaveOfAll(t *testing.T) {
	for _, robin := range []bool{false, true} {
		g, p := loaded(t, 7, robin, eight()...)
		for i, s := range eight() {
			if e := g.Leave(s.M.Name, 7+i); e != api.OK {
				t.Errorf("%d: Leave: %d", i, e)
			}
			p.leave(s.M.Name, 7+i)
			match(t, g, p)
			// It can't leave twice.
			for _, gen := range []int{7 + i, 8 + i} {
				if e := g.Leave(s.M.Name, gen); e != api.ErrGroupNone {
					t.Errorf("%d: Leave again: %d", i, e)
				}
			}
			match(t, g, p)
		}
		if gen, is := g.Gen(); gen != 15 || is != robin || len(g.Seats()) != 0 {
			t.Errorf("Gen: %d, %v; Seats: %v", gen, is, g.Seats())
		}
	}
}

func TestLeaveRefuses(t *testing.T) {
	g, p := loaded(t, 7, false, eight()...)
	for _, gen := range append(numbers(), 6, 7, 8) {
		for _, name := range others(p.l) {
			want := p.fence(name, gen)
			if want == api.OK {
				continue
			}
			if e := g.Leave(name, gen); e != want {
				t.Errorf("Leave(%q, %d): %d, want %d", name, gen, e, want)
			}
			tells(t, g, p)
		}
	}
	match(t, g, p)
}

// At the greatest generation members leave still, and expire; it stays the greatest.
func TestLeaveAndExpireAtTheGreatestGeneration(t *testing.T) {
	g, p := loaded(t, most-1, true, eight()...)
	for i, name := range []string{"m10", "-", "m"} {
		gen := min(most-1+i, most)
		if e := g.Leave(name, gen); e != api.OK {
			t.Errorf("Leave(%q): %d", name, e)
		}
		p.leave(name, gen)
		match(t, g, p)
		if got, _ := g.Gen(); got != most {
			t.Errorf("Gen: %d", got)
		}
	}
	if l := g.Expire(9); !slices.Equal(l, []string{"0", "m2", "zzzzzzzzzzzzzzzz"}) {
		t.Errorf("Expire: %q", l)
	}
	p.expire(9)
	match(t, g, p)
	if l := g.Expire(math.MaxInt); !slices.Equal(l, []string{"a", "aa"}) {
		t.Errorf("Expire of all: %q", l)
	}
	p.expire(math.MaxInt)
	match(t, g, p)
	if gen, robin := g.Gen(); gen != most || !robin {
		t.Errorf("Gen: %d, %v", gen, robin)
	}
	// From the one below it.
	g, p = loaded(t, most-1, true, eight()...)
	if l := g.Expire(100); len(l) != 8 {
		t.Errorf("Expire of eight: %q", l)
	}
	p.expire(100)
	match(t, g, p)
}

// One below, at and above Seen and Timeout.
func TestExpireAtItsTime(t *testing.T) {
	for i, x := range []struct{ timeout, seen int }{{5, 4}, {1, 0}, {1, 1}, {2, 0}, {1, most}, {most, 0}, {most, most}, {most - 1, most}, {1 << 32, 1 << 32}, {7, 1<<32 - 3}} {
		at := x.timeout + x.seen
		for _, now := range []int{math.MinInt, -at - 1, -at, -1, 0, x.seen - 1, x.seen, x.timeout - 1, at - 2, at - 1} {
			if now >= at {
				continue
			}
			g, p := loaded(t, 7, false, seat("m", x.timeout, x.seen, "t"))
			if l := g.Expire(now); len(l) != 0 {
				t.Errorf("%d: Expire(%d): %q", i, now, l)
			}
			match(t, g, p)
		}
		for _, now := range []int{at, at + 1, at + 1<<32, math.MaxInt - 1, math.MaxInt} {
			g, _ := loaded(t, 7, false, seat("m", x.timeout, x.seen, "t"))
			if l := g.Expire(now); !slices.Equal(l, []string{"m"}) {
				t.Errorf("%d: Expire(%d): %q", i, now, l)
			}
			match(t, g, &plain{gen: 8})
			// Nobody is there any more.
			if l := g.Expire(now); len(l) != 0 {
				t.Errorf("%d: Expire(%d) again: %q", i, now, l)
			}
			match(t, g, &plain{gen: 8})
		}
	}
}

// None, some and all: their names rise, and the generation is one more once, however many go.
func TestExpire(t *testing.T) {
	all := []string{"-", "0", "a", "aa", "m", "m10", "m2", "zzzzzzzzzzzzzzzz"}
	for i, x := range []struct {
		now  int
		want []string
	}{
		{math.MinInt, nil}, {-1, nil}, {0, nil}, {2, nil},
		{3, []string{"-", "0"}},
		{7, []string{"-", "0"}},
		{8, []string{"-", "0", "m2"}},
		{9, []string{"-", "0", "m", "m10", "m2", "zzzzzzzzzzzzzzzz"}},
		{10, all}, {most, all}, {math.MaxInt, all},
	} {
		for _, robin := range []bool{false, true} {
			g, p := loaded(t, 7, robin, eight()...)
			if l := g.Expire(x.now); !slices.Equal(l, x.want) {
				t.Errorf("%d: Expire(%d): %q, want %q", i, x.now, l, x.want)
			}
			p.expire(x.now)
			match(t, g, p)
			gen := 8
			if len(x.want) == 0 {
				gen = 7
			}
			if got, is := g.Gen(); got != gen || is != robin || len(g.Seats()) != 8-len(x.want) {
				t.Errorf("%d: Gen: %d, %v; %d seats", i, got, is, len(g.Seats()))
			}
			// It was all of them.
			if l := g.Expire(x.now); len(l) != 0 {
				t.Errorf("%d: Expire(%d) again: %q", i, x.now, l)
			}
			match(t, g, p)
		}
	}
}

// Tick by tick, joined in any order.
func TestExpireTickByTick(t *testing.T) {
	g, p := New(), &plain{}
	for _, i := range []int{5, 2, 7, 0, 4, 6, 1, 3} {
		mustJoin(t, g, p, eight()[i], true)
	}
	var gone []string
	for now := range 12 {
		got, want := g.Expire(now), p.expire(now)
		if !slices.Equal(got, want) {
			t.Errorf("Expire(%d): %q, want %q", now, got, want)
		}
		gone = append(gone, got...)
		match(t, g, p)
	}
	if want := []string{"-", "0", "m2", "m", "m10", "zzzzzzzzzzzzzzzz", "a", "aa"}; !slices.Equal(gone, want) {
		t.Errorf("they went as %q", gone)
	}
	if gen, _ := g.Gen(); gen != 12 {
		t.Errorf("Gen: %d", gen)
	}
}

// P11.3

func TestAssigned(t *testing.T) {
	three := []api.Topic{topic("a", 2), topic("t", 3), topic("u", 1)}
	seats := []api.Seat{seat("m", 5, 5, "a", "t"), seat("n", 5, 5, "t"), seat("o", 5, 5, "x"), seat("p", 5, 5, "a", "x")}
	for i, x := range []struct {
		robin bool
		name  string
		want  []api.Part
	}{
		{false, "m", slices.Concat(of("a", 0), of("t", 0, 1))},
		{false, "n", of("t", 2)},
		{false, "p", of("a", 1)},
		// The place is behind p when the topic t begins: m, n, m.
		{true, "m", slices.Concat(of("a", 0), of("t", 0, 2))},
		{true, "n", of("t", 1)},
		{true, "p", of("a", 1)},
		// It has nothing.
		{false, "o", nil},
		{true, "o", nil},
	} {
		for _, turned := range []bool{false, true} {
			l := slices.Clone(seats)
			if turned {
				slices.Reverse(l)
			}
			g, p := New(), &plain{}
			for _, s := range l {
				mustJoin(t, g, p, s, x.robin)
			}
			if got, e := g.Assigned(x.name, 4, three); !slices.Equal(got, x.want) || e != api.OK {
				t.Errorf("%d: Assigned(%q): %v, %d, want %v", i, x.name, got, e, x.want)
			}
			match(t, g, p)
		}
	}
}

// badLists are topics that may not be, with assign.Check's error.
func badLists() map[api.Errno][][]api.Topic {
	nine := []api.Topic{topic("a", 1), topic("b", 1), topic("c", 1), topic("d", 1), topic("e", 1), topic("f", 1), topic("g", 1), topic("h", 1), topic("i", 1)}
	return map[api.Errno][][]api.Topic{
		api.ErrBig: {nine, make([]api.Topic, 9), make([]api.Topic, 100)},
		api.ErrArg: {
			{{}}, {topic("", 1)}, {topic("T", 1)}, {topic("t", 0)}, {topic("t", 9)}, {topic("t", -1)}, {topic("t", math.MaxInt)},
			{topic("t", 1), topic("t", 1)}, {topic("t", 1), topic("a", 1)}, {topic("a", 1), topic("t", 0)}, make([]api.Topic, 8),
		},
	}
}

// Of several errors the topics' is told first, then that there is no such member, then the generation's; by either way.
func TestAssignedRefuses(t *testing.T) {
	good := []api.Topic{topic("a", 2), topic("t", 3)}
	for _, robin := range []bool{false, true} {
		for _, seats := range [][]api.Seat{nil, eight()[4:5], eight()} {
			g, p := loaded(t, 7, robin, seats...)
			for want, lists := range badLists() {
				for _, l := range lists {
					for _, name := range []string{"m", "no-such", ""} {
						for _, gen := range []int{7, 6, 8, -1, math.MaxInt} {
							if got, e := g.Assigned(name, gen, l); got != nil || e != want {
								t.Errorf("Assigned(%q, %d, %v): %v, %d, want %d", name, gen, l, got, e, want)
							}
						}
					}
				}
			}
			for _, l := range [][]api.Topic{nil, good} {
				for _, gen := range append(numbers(), 6, 7, 8) {
					if got, e := g.Assigned("no-such", gen, l); got != nil || e != api.ErrGroupNone {
						t.Errorf("Assigned of none: %v, %d", got, e)
					}
					if gen == 7 || len(seats) == 0 {
						continue
					}
					if got, e := g.Assigned("m", gen, l); got != nil || e != api.ErrGroupGen {
						t.Errorf("Assigned in %d: %v, %d", gen, got, e)
					}
				}
			}
			match(t, g, p)
		}
	}
}

// It hangs on the members as they are now, and on the topics that are told now.
func TestAssignedFollows(t *testing.T) {
	for _, robin := range []bool{false, true} {
		g, p := New(), &plain{}
		ask := func(name string, n int, want []api.Part) {
			t.Helper()
			gen, _ := g.Gen()
			if got, e := g.Assigned(name, gen, []api.Topic{topic("t", n)}); !slices.Equal(got, want) || e != api.OK {
				t.Errorf("Assigned(%q) of %d: %v, %d, want %v", name, n, got, e, want)
			}
			match(t, g, p)
		}
		mustJoin(t, g, p, seat("n", 5, 0, "t"), robin)
		ask("n", 2, of("t", 0, 1))
		ask("n", 4, of("t", 0, 1, 2, 3))
		mustJoin(t, g, p, seat("m", 5, 1, "t"), robin)
		ask("n", 2, of("t", 1))
		ask("m", 2, of("t", 0))
		ask("n", 1, nil)
		mustJoin(t, g, p, seat("m", 5, 1, "a"), robin)
		ask("m", 2, nil)
		ask("n", 2, of("t", 0, 1))
		mustJoin(t, g, p, seat("m", 5, 1, "a", "t"), robin)
		ask("n", 2, of("t", 1))
		g.Expire(5)
		p.expire(5)
		ask("m", 2, of("t", 0, 1))
	}
}

// P11.4

func TestSeatsByRisingNames(t *testing.T) {
	r := chance(1)
	for range 200 {
		l := eight()[:r.below(9)]
		g, p := New(), &plain{}
		for _, i := range shuffled(&r, len(l)) {
			mustJoin(t, g, p, l[i], false)
		}
		for range 3 {
			if got := g.Seats(); !sameSeats(got, l) {
				t.Fatalf("Seats: %v, want %v", got, l)
			}
		}
	}
}

// shuffled are the numbers below n, in some order.
func shuffled(r *chance, n int) []int {
	var l []int
	for i := range n {
		l = slices.Insert(l, r.below(i+1), i)
	}
	return l
}

func TestLoad(t *testing.T) {
	for _, gen := range []int{0, 1, 2, 7, 1 << 32, most - 1, most} {
		for _, robin := range []bool{false, true} {
			for n := range 9 {
				g, p := loaded(t, gen, robin, eight()[:n]...)
				match(t, g, p)
				if got, is := g.Gen(); got != gen || is != robin || !sameSeats(g.Seats(), eight()[:n]) {
					t.Errorf("Gen: %d, %v; Seats: %v", got, is, g.Seats())
				}
				// What is told is loaded as it is.
				again, e := Load(gen, robin, g.Seats())
				if e != api.OK {
					t.Fatalf("Load of what was told: %d", e)
				}
				match(t, again, p)
			}
		}
	}
}

func TestLoadRefuses(t *testing.T) {
	bad := seat("m", 0, 1, "t")
	// The last two names rise, as the others do.
	nine := append(eight()[:7], seat("n", 1, 1, "t"), seat("o", 1, 1, "t"))
	for i, x := range []struct {
		gen int
		l   []api.Seat
		e   api.Errno
	}{
		// More than eight, and whatever else.
		{7, nine, api.ErrBig},
		{7, append(eight(), seat("zzzzzzzzzzzzzzzz", 1, 1, "t")), api.ErrBig},
		{7, append(eight(), api.Seat{}), api.ErrBig},
		{7, make([]api.Seat, 9), api.ErrBig},
		{7, make([]api.Seat, 1000), api.ErrBig},
		{-1, nine, api.ErrBig},
		{most + 1, make([]api.Seat, 9), api.ErrBig},
		// A generation that may not be.
		{-1, nil, api.ErrArg},
		{-1, eight(), api.ErrArg},
		{most + 1, nil, api.ErrArg},
		{most + 1, eight(), api.ErrArg},
		{math.MinInt, nil, api.ErrArg},
		{math.MaxInt, nil, api.ErrArg},
		{1 << 41, eight()[:1], api.ErrArg},
		// A seat that may not be: the first one, one between, the last one.
		{7, make([]api.Seat, 1), api.ErrArg},
		{7, make([]api.Seat, 8), api.ErrArg},
		{7, ofEight(0, seat("", 1, 1, "t")), api.ErrArg},
		{7, ofEight(0, seat("-", 1, 1)), api.ErrArg},
		{7, ofEight(4, bad), api.ErrArg},
		{7, ofEight(4, seat("m", 1, 1, "t", "t")), api.ErrArg},
		{7, ofEight(4, seat("m_", 1, 1, "t")), api.ErrArg},
		{7, ofEight(7, seat("zz", most+1, 1, "t")), api.ErrArg},
		{7, ofEight(7, seat("zz", 1, -1, "t")), api.ErrArg},
		{7, ofEight(7, seat("zzzzzzzzzzzzzzzzz", 1, 1, "t")), api.ErrArg},
		// Names that stand twice.
		{7, []api.Seat{seat("m", 1, 1, "t"), seat("m", 1, 1, "t")}, api.ErrArg},
		{7, []api.Seat{seat("m", 1, 1, "t"), seat("m", 2, 2, "a")}, api.ErrArg},
		{7, []api.Seat{seat("m", 1, 1, "t"), seat("n", 1, 1, "t"), seat("m", 1, 1, "t")}, api.ErrArg},
		{7, ofEight(7, seat("m2", 1, 1, "t")), api.ErrArg},
		{7, ofEight(0, seat("0", 1, 1, "t")), api.ErrArg},
		// Names that are out of order.
		{7, []api.Seat{seat("n", 1, 1, "t"), seat("m", 1, 1, "t")}, api.ErrArg},
		{7, []api.Seat{seat("m2", 1, 1, "t"), seat("m10", 1, 1, "t")}, api.ErrArg},
		{7, []api.Seat{seat("mm", 1, 1, "t"), seat("m", 1, 1, "t")}, api.ErrArg},
		{7, []api.Seat{seat("a", 1, 1, "t"), seat("9", 1, 1, "t")}, api.ErrArg},
		{7, []api.Seat{seat("0", 1, 1, "t"), seat("-", 1, 1, "t")}, api.ErrArg},
		{7, []api.Seat{seat("a", 1, 1, "t"), seat("c", 1, 1, "t"), seat("b", 1, 1, "t")}, api.ErrArg},
		{7, ofEight(7, seat("m1", 1, 1, "t")), api.ErrArg},
		{7, ofEight(0, seat("1", 1, 1, "t")), api.ErrArg},
	} {
		for _, robin := range []bool{false, true} {
			if g, e := Load(x.gen, robin, x.l); g != nil || e != x.e {
				t.Errorf("%d: Load(%d, %v): %v, %d, want %d", i, x.gen, x.l, g, e, x.e)
			}
		}
	}
}

// steps are what changes a group.
func steps() map[string]func(g *Group, p *plain) {
	return map[string]func(g *Group, p *plain){
		"Join": func(g *Group, p *plain) {
			g.Join(seat("b", 1, 9, "t"), true)
			p.join(seat("b", 1, 9, "t"), true)
		},
		"Join of one that is there": func(g *Group, p *plain) {
			g.Join(seat("m", 9, 1, "b", "c"), true)
			p.join(seat("m", 9, 1, "b", "c"), true)
		},
		"Beat":          func(g *Group, p *plain) { g.Beat("m", 7, 30); p.beat("m", 7, 30) },
		"Leave":         func(g *Group, p *plain) { g.Leave("m", 7); p.leave("m", 7) },
		"Expire":        func(g *Group, p *plain) { g.Expire(9); p.expire(9) },
		"Expire of all": func(g *Group, p *plain) { g.Expire(most); p.expire(most) },
		"all, and another way": func(g *Group, p *plain) {
			g.Expire(most)
			p.expire(most)
			g.Join(seat("m", 1, 9, "t"), false)
			p.join(seat("m", 1, 9, "t"), false)
		},
	}
}

// A copy tells what its original tells, and each goes its own way.
func TestCopy(t *testing.T) {
	for name, step := range steps() {
		for other, otherStep := range steps() {
			g, p := loaded(t, 7, true, eight()[:7]...)
			c, q := g.Copy(), p.copy()
			match(t, c, q)
			step(c, q)
			match(t, c, q)
			match(t, g, p)
			otherStep(g, p)
			match(t, g, p)
			match(t, c, q)
			// A copy of a copy.
			d, s := c.Copy(), q.copy()
			step(c, q)
			otherStep(d, s)
			match(t, c, q)
			match(t, d, s)
			if t.Failed() {
				t.Fatalf("%s, and %s", name, other)
			}
		}
	}
	g := New()
	c := g.Copy()
	p, q := &plain{}, &plain{}
	mustJoin(t, c, q, seat("m", 1, 1, "t"), true)
	match(t, g, p)
	match(t, c, q)
	mustJoin(t, g, p, seat("n", 1, 1, "t"), false)
	match(t, g, p)
	match(t, c, q)
}

// P11.5

// drawnSeat is one that may be, of few names and topics, so that they come again.
func drawnSeat(r *chance, now int) api.Seat {
	var topics []string
	for _, name := range []string{"a", "b", "t", "t2"} {
		if r.below(2) == 0 {
			topics = append(topics, name)
		}
	}
	if len(topics) == 0 {
		topics = []string{"t"}
	}
	return seat("m"+strconv.Itoa(r.below(11)), 1+r.below(30), now, topics...)
}

// drawnTopics are some that may be.
func drawnTopics(r *chance) []api.Topic {
	var l []api.Topic
	for _, name := range []string{"a", "b", "no-such", "t", "t2"} {
		if r.below(3) > 0 {
			l = append(l, topic(name, 1+r.below(8)))
		}
	}
	return l
}

// members are who is there, and what they want.
func members(g *Group) string {
	var s strings.Builder
	for _, one := range g.Seats() {
		s.WriteString(one.M.Name + ":" + strings.Join(one.M.Topics, ",") + ";")
	}
	return s.String()
}

// walk does one thing, drawn by chance, to a group and its plain one, and tells where their answers differ.
func walk(t *testing.T, r *chance, g *Group, p *plain, now int) {
	t.Helper()
	name := "m" + strconv.Itoa(r.below(11))
	gen := p.gen
	if r.below(6) == 0 {
		gen += r.below(3) - 1
	}
	switch r.below(12) {
	case 0, 1, 2, 3:
		s := drawnSeat(r, now)
		if r.below(10) == 0 {
			s = seatsThatMayNot()[r.below(len(seatsThatMayNot()))]
		}
		robin := p.robin != (r.below(8) == 0)
		got, e := g.Join(s, robin)
		want, wantE := p.join(s, robin)
		if got != want || e != wantE {
			t.Fatalf("Join(%v, %v): %d, %d, want %d, %d", s, robin, got, e, want, wantE)
		}
	case 4, 5, 6, 7:
		then := now + r.below(5) - 2
		if got, want := g.Beat(name, gen, then), p.beat(name, gen, then); got != want {
			t.Fatalf("Beat(%q, %d, %d): %d, want %d", name, gen, then, got, want)
		}
	case 8:
		if got, want := g.Leave(name, gen), p.leave(name, gen); got != want {
			t.Fatalf("Leave(%q, %d): %d, want %d", name, gen, got, want)
		}
	case 9, 10:
		if got, want := g.Expire(now), p.expire(now); !slices.Equal(got, want) {
			t.Fatalf("Expire(%d): %q, want %q", now, got, want)
		}
	case 11:
		l := drawnTopics(r)
		got, e := g.Assigned(name, gen, l)
		want, wantE := p.assigned(name, gen, l)
		if !slices.Equal(got, want) || e != wantE {
			t.Fatalf("Assigned(%q, %d, %v): %v, %d, want %v, %d", name, gen, l, got, e, want, wantE)
		}
	}
	tells(t, g, p)
}

// Whatever happens: within a generation the members and their topics are the same, generations rise, and who has an older one is told so.
func TestAnythingInAnyOrder(t *testing.T) {
	r := chance(2)
	for range 60 {
		g, p := New(), &plain{}
		was := members(g)
		for now := range 400 {
			old := p.gen
			walk(t, &r, g, p, now)
			gen, _ := g.Gen()
			if gen < old || gen > old+1 {
				t.Fatalf("the generation is %d, behind %d", gen, old)
			}
			is := members(g)
			if gen == old && is != was {
				t.Fatalf("in generation %d: %s, then %s", gen, was, is)
			}
			was = is
			for _, s := range p.l {
				if e := g.Fence(s.M.Name, gen); e != api.OK {
					t.Fatalf("Fence(%q, %d): %d", s.M.Name, gen, e)
				}
				if e := g.Fence(s.M.Name, old); gen > old && e != api.ErrGroupGen {
					t.Fatalf("Fence(%q, %d): %d, in %d", s.M.Name, old, e, gen)
				}
			}
			switch r.below(40) {
			case 0:
				g = g.Copy()
			case 1:
				robin := p.robin
				again, e := Load(gen, robin, g.Seats())
				if e != api.OK {
					t.Fatalf("Load of what was told: %d", e)
				}
				g = again
			case 2:
				match(t, g, p)
			}
		}
		match(t, g, p)
	}
}

// No partition is assigned to two members; each one that somebody wants is assigned to one, who wants it.
func TestNothingIsAssignedToTwo(t *testing.T) {
	r := chance(3)
	for range 2000 {
		g, p := New(), &plain{}
		robin := r.below(2) == 0
		for range r.below(12) {
			s := drawnSeat(&r, 0)
			g.Join(s, robin)
			p.join(s, robin)
		}
		l := drawnTopics(&r)
		whose := map[api.Part]string{}
		wanted := map[string]int{}
		for _, s := range p.seats() {
			got, e := g.Assigned(s.M.Name, p.gen, l)
			if e != api.OK {
				t.Fatalf("Assigned(%q): %d", s.M.Name, e)
			}
			for _, part := range got {
				if other, is := whose[part]; is {
					t.Fatalf("%v is %s's, and %s's", part, other, s.M.Name)
				}
				if !slices.Contains(s.M.Topics, part.Topic) || !slices.ContainsFunc(l, func(x api.Topic) bool { return x.Name == part.Topic && 0 <= part.N && part.N < x.N }) {
					t.Fatalf("%v is %s's, of %v", part, s.M.Name, l)
				}
				whose[part] = s.M.Name
			}
			for _, name := range s.M.Topics {
				wanted[name]++
			}
		}
		n := 0
		for _, x := range l {
			n += x.N * min(wanted[x.Name], 1)
		}
		if len(whose) != n {
			t.Fatalf("%d partitions are assigned, want %d", len(whose), n)
		}
	}
}

// R1

// Whatever is handed in, there is an answer, and the right one.
func TestAnythingIsAnswered(t *testing.T) {
	names := []string{"", "m", "m2", "M", "\xff", strings.Repeat("m", 1000)}
	for _, gen := range []int{0, 7, most} {
		for _, seats := range [][]api.Seat{nil, eight()[4:7], eight()} {
			for _, a := range numbers() {
				for _, b := range append(numbers(), gen) {
					for _, name := range names {
						g, p := loaded(t, gen, a > b, seats...)
						if got, want := g.Beat(name, b, a), p.beat(name, b, a); got != want {
							t.Fatalf("Beat(%q, %d, %d): %d, want %d", name, b, a, got, want)
						}
						if got, want := g.Leave(name, b), p.leave(name, b); got != want {
							t.Fatalf("Leave(%q, %d): %d, want %d", name, b, got, want)
						}
						s := seat(name, a, b, "t")
						got, e := g.Join(s, a > b)
						want, wantE := p.join(s, a > b)
						if got != want || e != wantE {
							t.Fatalf("Join(%v): %d, %d, want %d, %d", s, got, e, want, wantE)
						}
						if got, want := g.Expire(a), p.expire(a); !slices.Equal(got, want) {
							t.Fatalf("Expire(%d): %q, want %q", a, got, want)
						}
						tells(t, g, p)
					}
				}
			}
		}
	}
}

// R4

// roomy is a list with room behind it, and the whole of it.
func roomy[T any](l []T, behind T) ([]T, []T) {
	whole := append(slices.Clone(l), behind, behind, behind)
	return whole[:len(l)], whole
}

// spoil fills a list, and the room behind it.
func spoil[T any](l []T, by T) {
	l = l[:cap(l)]
	for i := range l {
		l[i] = by
	}
}

func TestJoinKeepsNothing(t *testing.T) {
	for i, l := range [][]api.Seat{nil, {seat("k", 4, 2, "a")}, {seat("m", 4, 2, "a")}, eight()} {
		for _, s := range []api.Seat{seat("m", 5, 1, "a", "b", "t"), seat("m", 5, 1, "b", "a"), seat("o", 5, 1, "t", "u"), seat("m", 0, 1, "a", "t")} {
			g, p := loaded(t, 7, true, l...)
			topics, whole := roomy(s.M.Topics, "room")
			was := slices.Clone(whole)
			handed := s
			handed.M.Topics = topics
			got, e := g.Join(handed, true)
			want, wantE := p.join(s, true)
			if got != want || e != wantE || !slices.Equal(whole, was) {
				t.Fatalf("%d: Join(%v): %d, %d; it is made into %v", i, s, got, e, whole)
			}
			spoil(topics, "spoilt")
			match(t, g, p)
		}
	}
}

func TestLoadKeepsNothing(t *testing.T) {
	for n := range 9 {
		for _, fault := range []int{-1, n - 1} {
			l, whole := roomy(eight()[:n], seat("room", 9, 9, "room"))
			var wants [][]string
			for i := range l {
				topics, all := roomy(l[i].M.Topics, "room")
				l[i].M.Topics = topics
				wants = append(wants, all)
			}
			want := api.OK
			if fault >= 0 {
				l[fault].Timeout = 0
				want = api.ErrArg
			}
			was := (&plain{l: whole[:n]}).copy()
			var wasWants [][]string
			for _, all := range wants {
				wasWants = append(wasWants, slices.Clone(all))
			}
			g, e := Load(7, true, l)
			if e != want {
				t.Fatalf("Load of %d: %d, want %d", n, e, want)
			}
			if !sameSeats(l, was.l) || !slices.EqualFunc(wants, wasWants, slices.Equal) || !sameSeat(whole[n], seat("room", 9, 9, "room")) {
				t.Fatalf("Load made it into %v", whole)
			}
			if want != api.OK {
				continue
			}
			for i := range l {
				spoil(l[i].M.Topics, "spoilt")
			}
			spoil(l, seat("spoilt", 1, 1, "spoilt"))
			was.gen, was.robin = 7, true
			match(t, g, was)
		}
	}
}

func TestAssignedKeepsNothing(t *testing.T) {
	for _, robin := range []bool{false, true} {
		g, p := loaded(t, 7, robin, eight()...)
		for _, l := range append(lists(), badLists()[api.ErrArg]...) {
			for _, name := range []string{"m2", "m10", "no-such"} {
				handed, whole := roomy(l, topic("t", 8))
				was := slices.Clone(whole)
				got, e := g.Assigned(name, 7, handed)
				want, wantE := p.assigned(name, 7, l)
				if !slices.Equal(whole, was) {
					t.Fatalf("Assigned made it into %v", whole)
				}
				spoil(handed, topic("spoilt", 1))
				if !slices.Equal(got, want) || e != wantE {
					t.Fatalf("Assigned(%q, %v): %v, %d, want %v, %d", name, l, got, e, want, wantE)
				}
			}
		}
		match(t, g, p)
	}
}

// What is told is its owner's: spoilt, room and all, it changes nothing that is told then, and no list of it changes another one.
func TestWhatIsToldIsItsOwners(t *testing.T) {
	l := []api.Topic{topic("a", 3), topic("t", 8)}
	for _, robin := range []bool{false, true} {
		g, p := loaded(t, 7, robin, eight()...)
		c, q := g.Copy(), p.copy()
		seats := g.Seats()
		for i := range seats {
			spoil(append(seats[i].M.Topics, "more"), "spoilt")
			spoil(seats[i].M.Topics, "spoilt")
			if !sameSeats(seats[i+1:], eight()[i+1:]) {
				t.Fatalf("seats are spoilt with seat %d: %v", i, seats)
			}
		}
		spoil(append(seats, seat("more", 1, 1, "t")), seat("spoilt", 1, 1, "spoilt"))
		spoil(seats, seat("spoilt", 1, 1, "spoilt"))
		match(t, g, p)
		match(t, c, q)
		// One member's partitions, and another one's.
		first, _ := g.Assigned("m2", 7, l)
		want := slices.Clone(first)
		second, _ := g.Assigned("m2", 7, l)
		third, _ := g.Assigned("aa", 7, l)
		was := slices.Clone(third)
		spoil(append(second, api.Part{}), api.Part{Topic: "spoilt"})
		spoil(second, api.Part{Topic: "spoilt"})
		if len(first) == 0 || len(third) == 0 || !slices.Equal(first, want) || !slices.Equal(third, was) {
			t.Errorf("Assigned: %v and %v, want %v and %v", first, third, want, was)
		}
		match(t, g, p)
		// Names of those that are out.
		gone := g.Expire(8)
		p.expire(8)
		other := c.Expire(8)
		q.expire(8)
		spoil(append(gone, "more"), "spoilt")
		spoil(gone, "spoilt")
		if !slices.Equal(other, []string{"-", "0", "m2"}) {
			t.Errorf("Expire: %q", other)
		}
		match(t, g, p)
		match(t, c, q)
	}
}

// A copy's seats are not its original's, nor is what either of them tells.
func TestCopiesShareNothing(t *testing.T) {
	g, p := loaded(t, 7, true, eight()...)
	c := g.Copy()
	for _, one := range []*Group{g, c} {
		for _, s := range one.Seats() {
			spoil(s.M.Topics, "spoilt")
		}
		match(t, g, p)
		match(t, c, p)
	}
}

// R5

// What is told hangs on what was done, not on the order in which members came where that tells nothing.
func TestAnswersHangOnNothingElse(t *testing.T) {
	r := chance(4)
	l := []api.Topic{topic("a", 5), topic("b", 2), topic("t", 8)}
	for _, robin := range []bool{false, true} {
		_, p := loaded(t, 8, robin, eight()...)
		for range 20 {
			g := New()
			for _, i := range shuffled(&r, 8) {
				g.Join(eight()[i], robin)
			}
			match(t, g, p)
			for _, s := range eight() {
				got, e := g.Assigned(s.M.Name, 8, l)
				want, wantE := p.assigned(s.M.Name, 8, l)
				if !slices.Equal(got, want) || e != wantE {
					t.Fatalf("Assigned(%q): %v, %d, want %v, %d", s.M.Name, got, e, want, wantE)
				}
			}
			if got, want := g.Expire(9), p.copy().expire(9); !slices.Equal(got, want) {
				t.Fatalf("Expire: %q, want %q", got, want)
			}
		}
	}
}

// heldBytes is how much memory is in use.
func heldBytes() int64 {
	runtime.GC()
	var m runtime.MemStats
	runtime.ReadMemStats(&m)
	return int64(m.HeapAlloc)
}

// Names that are pieces of great texts are handed in, and lists with room: they are not kept.
func TestGreatThingsAreNotKept(t *testing.T) {
	const great, n = 1 << 20, 20
	piece := func(i int) string { return strings.Repeat("x", great)[i : i+9] }
	joined := func(i int) *Group {
		g := New()
		s := seat(piece(i), 5, 1, append(make([]string, 0, great/16), piece(i))...)
		g.Join(s, false)
		return g
	}
	for name, one := range map[string]func(i int) any{
		"Join": func(i int) any { return joined(i) },
		"Join again": func(i int) any {
			g := joined(i)
			g.Join(seat(piece(i), 5, 1, piece(i)), false)
			return g
		},
		"Beat": func(i int) any { g := joined(i); g.Beat(piece(i), 1, 9); return g },
		"Load": func(i int) any {
			g, _ := Load(7, false, []api.Seat{seat(piece(i), 5, 1, piece(i))})
			return g
		},
		"room":  func(int) any { g, _ := Load(7, false, make([]api.Seat, 0, great/64)); return g },
		"Leave": func(i int) any { g := joined(i); g.Leave(piece(i), 1); return g },
		"Fence": func(i int) any { g := joined(i); g.Fence(piece(i), 1); return g },
		"Seats": func(i int) any { return joined(i).Seats() },
		"Copy":  func(i int) any { return joined(i).Copy() },
		"Expire": func(i int) any {
			g := joined(i)
			return append(g.Expire(9), "")
		},
		"Assigned": func(i int) any {
			g := joined(i)
			l, _ := g.Assigned(piece(i), 1, []api.Topic{topic(piece(i), 8)})
			return l
		},
	} {
		before := heldBytes()
		var kept []any
		for i := range n {
			kept = append(kept, one(i))
		}
		if more := heldBytes() - before; more > great {
			t.Errorf("%s: %d bytes are kept", name, more)
		}
		runtime.KeepAlive(kept)
	}
}

// Members that went are not kept, nor are old seats.
func TestWhatWentIsNotKept(t *testing.T) {
	g, p := loaded(t, 7, false, seat("m", 5, 5, "t"))
	before := heldBytes()
	for i := range 30000 {
		name := "n" + strconv.Itoa(i)
		gen, e := g.Join(seat(name, 5, i, "a", "t"), false)
		if e != api.OK {
			t.Fatalf("%d: Join: %d", i, e)
		}
		if _, e := g.Join(seat("m", 5, 5, "t"), false); e != api.OK {
			t.Fatalf("%d: Join again: %d", i, e)
		}
		if e := g.Leave(name, gen+1); e != api.OK {
			t.Fatalf("%d: Leave: %d", i, e)
		}
	}
	if more := heldBytes() - before; more > 100000 {
		t.Errorf("%d bytes are kept of many members", more)
	}
	p.gen += 3 * 30000
	match(t, g, p)
}
