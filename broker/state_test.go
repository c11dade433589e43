package broker

import (
	"reflect"
	"slices"
	"strconv"
	"strings"
	"testing"

	"stagecoach/api"
	"stagecoach/request"
)

// P13.3

// told is the state of the busy broker, word for word.
func told() api.State {
	member := func(name string, topics ...string) api.Member { return api.Member{Name: name, Topics: topics} }
	return api.State{
		Room: 4, Now: 5,
		Topics: []api.Topic{{Name: "a", N: 1}, {Name: "b-2", N: 2}, {Name: "t", N: 3}},
		Logs: []api.Logged{
			{Part: at("a", 0), Segs: []api.Seg{
				{Base: 3, Next: 5, L: found(3, keyed("", "10"), value("11"))},
				{Base: 5, Next: 9, L: found(5, tomb(""), value("12"), value("13"), value("14"))},
			}},
			{Part: at("b-2", 0), Segs: []api.Seg{{}}},
			{Part: at("b-2", 1), Segs: []api.Seg{{}}},
			{Part: at("t", 0), Segs: []api.Seg{
				{Base: 0, Next: 2, L: found(1, value("2"))},
				{Base: 2, Next: 6, L: found(2, keyed("k", "3"), keyed("l", "4"), tomb("m"), keyed("l", "6"))},
			}},
			{Part: at("t", 1), Segs: []api.Seg{{}}},
			{Part: at("t", 2), Segs: []api.Seg{{Base: 0, Next: 1, L: found(0, value("5"))}}},
		},
		Epochs: []int{0, 1, 0},
		Makers: []api.Maker{
			{Id: 1, Part: at("t", 0), Last: []api.Did{{Seq: 0, N: 2, Offset: 0}, {Seq: 2, N: 3, Offset: 2}}},
			{Id: 1, Part: at("t", 2), Last: []api.Did{{Seq: 0, N: 1, Offset: 0}}},
			{Id: 2, Epoch: 1, Part: at("a", 0), Last: []api.Did{{Seq: 0, N: 4, Offset: 5}}},
			{Id: 2, Epoch: 1, Part: at("t", 0), Last: []api.Did{{Seq: 0, N: 1, Offset: 5}}},
		},
		Groups: []api.Grouped{
			{Name: "e", Gen: 2},
			{Name: "g", Gen: 2, Seats: []api.Seat{{M: member("m", "a", "t"), Timeout: 9, Seen: 5}, {M: member("n", "t"), Timeout: 5, Seen: 3}}},
			{Name: "h", Gen: 2, Robin: true, Seats: []api.Seat{{M: member("x", "a", "b-2"), Timeout: most, Seen: 3}, {M: member("y", "b-2", "no-such"), Timeout: 7, Seen: 3}}},
		},
		Marks: []api.Mark{
			{Group: "g", Part: at("a", 0), Offset: 9}, {Group: "g", Part: at("t", 0), Offset: 3},
			{Group: "h", Part: at("a", 0), Offset: 3}, {Group: "h", Part: at("b-2", 0), Offset: 0},
		},
	}
}

func TestState(t *testing.T) {
	b, p := busy(t)
	// Twice, as telling changes nothing.
	for range 2 {
		if got := apart(b.State()); !reflect.DeepEqual(got, told()) {
			t.Errorf("State:\n%+v, want\n%+v", got, told())
		}
	}
	tells(t, b, p)
}

// All lists stand in their order, however they came to be.
func TestStateStandsInOrder(t *testing.T) {
	names := []string{"-", "-a", "0", "10", "2", "a", "a-", "ab"}
	for seed := range 8 {
		c := chance(seed)
		b, p := mustNew(t, 4, producer(0), producer(0))
		for _, i := range shuffled(&c, 8) {
			must(t, b, p, topic(names[i], 8), join(names[i], "m", 9, names...))
		}
		for _, i := range shuffled(&c, 8) {
			for _, j := range shuffled(&c, 8) {
				must(t, b, p, produce(at(names[i], j), 1+(i+j)%2, 0, 0, value("v")), commit(names[j], "m", 1, at(names[i], j), 0))
			}
		}
		for _, i := range shuffled(&c, 8) {
			must(t, b, p, join(names[i], "l", 9, "a"))
		}
		s := b.State()
		for i, g := range s.Logs {
			if g.Part != at(names[i/8], i%8) {
				t.Errorf("%d: %v", i, g.Part)
			}
		}
		for i, name := range names {
			if s.Topics[i].Name != name || s.Groups[i].Name != name || s.Groups[i].Seats[0].M.Name != "l" {
				t.Errorf("%d: %v, %v", i, s.Topics[i], s.Groups[i])
			}
		}
	}
}

// shuffled are the numbers below n in another order.
func shuffled(c *chance, n int) []int {
	l := make([]int, n)
	for i := range l {
		j := c.below(i + 1)
		l[i] = l[j]
		l[j] = i
	}
	return l
}

// steps are commands of which each changes the busy broker, but the first one, that asks.
func steps() []api.Op {
	return []api.Op{
		fetch(at("t", 0), 0, 64), topic("new", 2), producer(0), producer(1), produce(at("t", 0), 1, 0, 5, keyed("k", "v")), produce(at("t", 1), 1, 0, 0, values(4)...),
		retain(at("t", 0), 2), retain(at("a", 0), most), compact(at("a", 0)), join("g", "o", 3, "t"), join("g", "m", 3, "t"), join("new", "o", 3, "t"),
		leave("g", "m", 2), leave("h", "x", 2), beat("g", "n", 2), commit("g", "m", 2, at("t", 0), 4), commit("g", "n", 2, at("t", 2), 1), tick(1), tick(3),
	}
}

// A copy, and one that is loaded, tell what the other one tells, and each goes its own way.
func TestCopyAndLoadGoTheirOwnWay(t *testing.T) {
	for name, build := range map[string]func(b *Broker) *Broker{
		"Copy": (*Broker).Copy,
		"Load": func(b *Broker) *Broker {
			c, e := Load(b.State())
			if e != api.OK {
				t.Fatal(e)
			}
			return c
		},
	} {
		for i, step := range steps() {
			for j, other := range steps() {
				b, p := busy(t)
				c, q := build(b), p.copy()
				if c == b {
					t.Fatal("it is the same one")
				}
				tells(t, c, q)
				must(t, c, q, step)
				tells(t, b, p)
				must(t, b, p, other)
				tells(t, c, q)
				// One of one.
				d, r := build(c), q.copy()
				does(t, d, r, other)
				tells(t, c, q)
				does(t, c, q, step)
				tells(t, d, r)
				tells(t, b, p)
				if t.Failed() {
					t.Fatal(name, i, j)
				}
			}
		}
		// Of one that has nothing.
		b, p := mustNew(t, 4)
		c, q := build(b), p.copy()
		must(t, c, q, story()...)
		tells(t, b, p)
		must(t, b, p, topic("t", 1), producer(0), join("g", "m", 2, "t"), tick(1))
		tells(t, c, q)
	}
}

// one is a state of one topic, of one partition.
func one() api.State {
	return api.State{
		Room: 2, Now: 7, Topics: []api.Topic{{Name: "t", N: 1}},
		Logs:   []api.Logged{{Part: at("t", 0), Segs: []api.Seg{{Base: 3, Next: 5, L: found(3, value("3"), value("4"))}, {Base: 5, Next: 6, L: found(5, value("5"))}}}},
		Epochs: []int{4, 0}, Makers: []api.Maker{{Id: 1, Epoch: 4, Part: at("t", 0), Last: []api.Did{{Seq: 8, N: 1, Offset: 4}, {Seq: 9, N: 1, Offset: 5}}}},
		Groups: []api.Grouped{{Name: "g", Gen: 3, Robin: true, Seats: []api.Seat{{M: api.Member{Name: "m", Topics: []string{"s", "t"}}, Timeout: 5, Seen: 6}}}},
		Marks:  []api.Mark{{Group: "g", Part: at("t", 0), Offset: 4}},
	}
}

// groups are so many groups without members, by rising names.
func groups(n int) []api.Grouped {
	var l []api.Grouped
	for i := range n {
		l = append(l, api.Grouped{Name: "g" + strconv.Itoa(i), Gen: i})
	}
	return l
}

// catalog are topics, each of so many partitions, and an empty log of each partition.
func catalog(s *api.State, n int, names ...string) {
	*s = api.State{Room: s.Room, Now: s.Now}
	for _, name := range names {
		s.Topics = append(s.Topics, api.Topic{Name: name, N: n})
		for i := range n {
			s.Logs = append(s.Logs, api.Logged{Part: at(name, i), Segs: []api.Seg{{}}})
		}
	}
}

// maker is what is remembered of a producer, of its epoch 4, and a partition.
func maker(id int, part api.Part, l ...api.Did) api.Maker {
	return api.Maker{Id: id, Epoch: 4, Part: part, Last: l}
}

// What may be is loaded, also what no broker comes to by commands.
func TestLoad(t *testing.T) {
	for i, change := range []func(s *api.State){
		func(s *api.State) {},
		func(s *api.State) { *s = told() },
		func(s *api.State) { *s = api.State{Room: 1} },
		func(s *api.State) {
			*s = api.State{Room: 64, Topics: []api.Topic{}, Logs: []api.Logged{}, Epochs: []int{}, Makers: []api.Maker{}, Groups: []api.Grouped{}, Marks: []api.Mark{}}
		},
		func(s *api.State) { s.Room = 64 },
		func(s *api.State) { s.Now = 0 },
		func(s *api.State) { s.Now = most },
		func(s *api.State) { catalog(s, 8, "-", "0", "a", "a0", "b", "c", "z", "zzzzzzzzzzzzzzzz") },
		func(s *api.State) { catalog(s, 1, "a") },
		func(s *api.State) { s.Logs[0].Segs = []api.Seg{{Base: most, Next: most}} },
		func(s *api.State) {
			s.Logs[0].Segs = []api.Seg{{Base: 0, Next: 9}, {Base: 9, Next: 9}, {Base: 9, Next: most}}
		},
		func(s *api.State) { s.Epochs = append(s.Epochs, make([]int, 30)...) },
		func(s *api.State) { s.Epochs[1] = most },
		func(s *api.State) { s.Epochs, s.Makers = nil, nil },
		func(s *api.State) { s.Makers[0].Last = []api.Did{{Seq: most, N: most, Offset: most}} },
		func(s *api.State) { s.Groups = groups(8) },
		func(s *api.State) { s.Groups[0].Name = "0123456789abcdef" },
		func(s *api.State) { s.Groups[0].Gen = most },
		// A seat of one that is silent for too long already, or was heard later than it is.
		func(s *api.State) { s.Groups[0].Seats[0].Seen = 0 },
		func(s *api.State) { s.Groups[0].Seats[0].Seen = most },
		// Marks of a group that there isn't, ahead of where the log begins, and behind its end.
		func(s *api.State) { s.Groups = nil },
		func(s *api.State) { s.Marks[0].Offset = 0 },
		func(s *api.State) { s.Marks[0].Offset = most },
		func(s *api.State) {
			s.Marks = []api.Mark{{Group: "a", Part: at("t", 0)}, {Group: "b", Part: at("t", 0)}, {Group: "c", Part: at("t", 0)}}
		},
	} {
		s := one()
		change(&s)
		b, p := mustLoad(t, s)
		for _, o := range []api.Op{
			fetch(at("t", 0), 4, 9), produce(at("t", 0), 1, 4, 9, value("again")), produce(at("t", 0), 1, 4, 10, value("6")), produce(at("t", 0), 2, 0, 0, value("7")), producer(0), producer(2),
			assigned("g", "m", 3), commit("g", "m", 3, at("t", 0), 5), committed("g", at("t", 0)), beat("g", "m", 3), tick(4), tick(1), join("new", "m", 1, "t"), topic("s", 1), retain(at("t", 0), 5), compact(at("t", 0)),
		} {
			does(t, b, p, o)
		}
		if t.Failed() {
			t.Fatal(i)
		}
	}
}

// broken are changes of a state that may be, each of which makes it one that may not.
func broken() map[string][]func(s *api.State) {
	m := map[string][]func(s *api.State){
		"Topics": {
			func(s *api.State) { catalog(s, 1, "a", "b", "c", "d", "e", "f", "g", "h", "i") },
			func(s *api.State) { catalog(s, 9, "a") },
			func(s *api.State) { catalog(s, 0, "a") },
			func(s *api.State) { catalog(s, 1, "b", "a") },
			func(s *api.State) { catalog(s, 1, "a", "a") },
			func(s *api.State) { catalog(s, 1, "b", "a"); slices.Reverse(s.Logs) },
			func(s *api.State) { catalog(s, -1, "a") },
		},
		"Segs": {
			func(s *api.State) { s.Logs[0].Segs = nil },
			func(s *api.State) { s.Logs[0].Segs[1].Base = 4 },
			func(s *api.State) { s.Logs[0].Segs[0].Next = 6 },
			func(s *api.State) { s.Logs[0].Segs[0].Base = -1 },
			func(s *api.State) { s.Logs[0].Segs[1].Next = most + 1 },
			func(s *api.State) { s.Logs[0].Segs[0].L[1].Offset = 3 },
			func(s *api.State) { s.Logs[0].Segs[1].L[0].Offset = 6 },
			func(s *api.State) { s.Logs[0].Segs[1].L[0].R = api.Record{Tomb: true} },
			func(s *api.State) { s.Logs[0].Segs[0].L[0].R.Value = strings.Repeat("v", 513) },
			// More records than there is room for.
			func(s *api.State) { s.Room = 1 },
			func(s *api.State) {
				s.Logs[0].Segs[1] = api.Seg{Base: 5, Next: 8, L: found(5, values(3)...)}
			},
		},
		"Parts": {
			func(s *api.State) { s.Logs = nil },
			func(s *api.State) { s.Topics, s.Makers, s.Marks = nil, nil, nil },
			func(s *api.State) { s.Logs[0].Part.N = 1 },
			func(s *api.State) { s.Logs[0].Part.N = -1 },
			func(s *api.State) { s.Logs[0].Part.Topic = "u" },
			func(s *api.State) { s.Logs = append(s.Logs, s.Logs[0]) },
			func(s *api.State) { s.Logs = append(s.Logs, api.Logged{Part: at("t", 1), Segs: []api.Seg{{}}}) },
			func(s *api.State) { s.Logs = append(s.Logs, api.Logged{Part: at("u", 0), Segs: []api.Seg{{}}}) },
			func(s *api.State) { s.Topics[0].N = 2 },
			func(s *api.State) { s.Topics = append(s.Topics, api.Topic{Name: "u", N: 1}) },
			func(s *api.State) { catalog(s, 2, "a", "b"); s.Logs = s.Logs[:3] },
			func(s *api.State) { catalog(s, 2, "a", "b"); s.Logs = s.Logs[1:] },
			func(s *api.State) { catalog(s, 2, "a", "b"); slices.Reverse(s.Logs) },
			func(s *api.State) { catalog(s, 2, "a", "b"); s.Logs[1], s.Logs[2] = s.Logs[2], s.Logs[1] },
			func(s *api.State) { catalog(s, 2, "a", "b"); s.Logs[1] = s.Logs[0] },
			func(s *api.State) { catalog(s, 2, "a", "b"); s.Logs[3].Part.N = 2 },
		},
		"Epochs and Makers": {
			func(s *api.State) { s.Epochs[1] = -1 },
			func(s *api.State) { s.Epochs[1] = most + 1 },
			func(s *api.State) { s.Epochs = append(s.Epochs, make([]int, 31)...) },
			func(s *api.State) { s.Epochs = nil },
			func(s *api.State) { s.Epochs[0] = 5 },
			func(s *api.State) { s.Epochs[0] = 3 },
			func(s *api.State) { s.Makers[0].Id = 0 },
			func(s *api.State) { s.Makers[0].Id = 3 },
			func(s *api.State) { s.Makers = append(s.Makers, s.Makers[0]) },
			func(s *api.State) {
				s.Epochs = []int{4, 4}
				s.Makers = []api.Maker{maker(2, at("t", 0), api.Did{N: 1}), s.Makers[0]}
			},
			func(s *api.State) { s.Makers[0].Last = nil },
			func(s *api.State) { s.Makers[0].Last[1].Seq = 10 },
			func(s *api.State) { s.Makers[0].Last[1].N = 0 },
			func(s *api.State) { s.Makers[0].Last[1].Offset = -1 },
			func(s *api.State) {
				s.Makers[0].Last = []api.Did{{N: 1}, {Seq: 1, N: 1}, {Seq: 2, N: 1}, {Seq: 3, N: 1}, {Seq: 4, N: 1}, {Seq: 5, N: 1}}
			},
		},
		"Makers of no partition": {
			func(s *api.State) { s.Makers[0].Part.N = 1 },
			func(s *api.State) { s.Makers[0].Part.N = -1 },
			func(s *api.State) { s.Makers[0].Part.N = most },
			func(s *api.State) { s.Makers[0].Part.Topic = "u" },
			func(s *api.State) { s.Makers[0].Part.Topic = "" },
			func(s *api.State) { s.Makers = append(s.Makers, maker(1, at("t", 1), api.Did{N: 1})) },
			func(s *api.State) { s.Makers = append([]api.Maker{maker(1, at("s", 0), api.Did{N: 1})}, s.Makers...) },
		},
		"Groups": {
			func(s *api.State) { s.Groups[0].Gen = -1 },
			func(s *api.State) { s.Groups[0].Gen = most + 1 },
			func(s *api.State) { s.Groups[0].Seats[0].Timeout = 0 },
			func(s *api.State) { s.Groups[0].Seats[0].Timeout = most + 1 },
			func(s *api.State) { s.Groups[0].Seats[0].Seen = -1 },
			func(s *api.State) { s.Groups[0].Seats[0].Seen = most + 1 },
			func(s *api.State) { s.Groups[0].Seats[0].M.Name = "M" },
			func(s *api.State) { s.Groups[0].Seats[0].M.Topics = nil },
			func(s *api.State) { s.Groups[0].Seats[0].M.Topics = []string{"t", "s"} },
			func(s *api.State) { s.Groups[0].Seats = append(s.Groups[0].Seats, s.Groups[0].Seats[0]) },
			func(s *api.State) {
				x := s.Groups[0].Seats[0]
				s.Groups[0].Seats = nil
				for i := range 9 {
					x.M.Name = "m" + strconv.Itoa(i)
					s.Groups[0].Seats = append(s.Groups[0].Seats, x)
				}
			},
			// Names.
			func(s *api.State) { s.Groups = append(s.Groups, s.Groups[0]) },
			func(s *api.State) { s.Groups = groups(9) },
			func(s *api.State) { s.Groups = groups(8); s.Groups[3], s.Groups[4] = s.Groups[4], s.Groups[3] },
			func(s *api.State) { s.Groups = groups(8); s.Groups[7].Name = "g6" },
			func(s *api.State) { s.Groups = groups(2); s.Groups[0].Name, s.Groups[1].Name = "g2", "g10" },
			func(s *api.State) { s.Groups = groups(2); slices.Reverse(s.Groups) },
		},
		"Marks": {
			func(s *api.State) { s.Marks[0].Offset = -1 },
			func(s *api.State) { s.Marks[0].Offset = most + 1 },
			func(s *api.State) { s.Marks[0].Group = "G" },
			func(s *api.State) { s.Marks = append(s.Marks, s.Marks[0]) },
			func(s *api.State) { s.Marks = append(s.Marks, api.Mark{Group: "f", Part: at("t", 0)}) },
			// Of no partition.
			func(s *api.State) { s.Marks[0].Part.N = 1 },
			func(s *api.State) { s.Marks[0].Part.N = -1 },
			func(s *api.State) { s.Marks[0].Part.N = most },
			func(s *api.State) { s.Marks[0].Part.Topic = "s" },
			func(s *api.State) { s.Marks[0].Part.Topic = "" },
			func(s *api.State) { s.Marks = append(s.Marks, api.Mark{Group: "g", Part: at("t", 1)}) },
			func(s *api.State) { s.Marks = append([]api.Mark{{Group: "f", Part: at("u", 0)}}, s.Marks...) },
		},
	}
	for _, name := range badNames() {
		m["names"] = append(m["names"],
			func(s *api.State) { catalog(s, 1, name) },
			func(s *api.State) { s.Groups[0].Name = name },
			func(s *api.State) { s.Groups = append([]api.Grouped{{Name: name}}, s.Groups...) },
			func(s *api.State) { s.Groups = append(s.Groups, api.Grouped{Name: name}) },
		)
	}
	for _, n := range numbers() {
		if n < 0 || n > most {
			m["Now"] = append(m["Now"], func(s *api.State) { s.Now = n }, func(s *api.State) { *s = api.State{Room: 1, Now: n} })
		}
		if n < 1 || n > 64 {
			// With logs, and without.
			m["Room"] = append(m["Room"], func(s *api.State) { s.Room = n }, func(s *api.State) { *s = api.State{Room: n} })
		}
	}
	return m
}

func TestLoadRefuses(t *testing.T) {
	for name, l := range broken() {
		for i, change := range l {
			s := one()
			change(&s)
			was := apart(s)
			if b, e := Load(s); b != nil || e != api.ErrBrokerForm {
				t.Errorf("%s, %d: Load: %v, %d", name, i, b, e)
			}
			if !reflect.DeepEqual(apart(s), was) {
				t.Errorf("%s, %d: Load made it into %+v", name, i, s)
			}
		}
	}
	// Several at once.
	s := one()
	s.Room, s.Now, s.Logs, s.Epochs, s.Marks[0].Offset = 0, -1, nil, []int{-1}, -1
	if b, e := Load(s); b != nil || e != api.ErrBrokerForm {
		t.Errorf("Load: %v, %d", b, e)
	}
	if b, e := Load(api.State{}); b != nil || e != api.ErrBrokerForm {
		t.Errorf("Load of nothing: %v, %d", b, e)
	}
}

// room gives each list of a state room behind it.
func room(s api.State) api.State {
	s = apart(s)
	s.Topics, _ = roomy(s.Topics, api.Topic{Name: "room", N: 1})
	s.Epochs, _ = roomy(s.Epochs, 9)
	s.Marks, _ = roomy(s.Marks, api.Mark{Group: "room"})
	for i := range s.Logs {
		for j := range s.Logs[i].Segs {
			s.Logs[i].Segs[j].L, _ = roomy(s.Logs[i].Segs[j].L, api.Found{Offset: 9})
		}
		s.Logs[i].Segs, _ = roomy(s.Logs[i].Segs, api.Seg{Base: 9})
	}
	s.Logs, _ = roomy(s.Logs, api.Logged{Part: at("room", 9)})
	for i := range s.Makers {
		s.Makers[i].Last, _ = roomy(s.Makers[i].Last, api.Did{Seq: 9})
	}
	s.Makers, _ = roomy(s.Makers, api.Maker{Id: 9})
	for i := range s.Groups {
		for j := range s.Groups[i].Seats {
			s.Groups[i].Seats[j].M.Topics, _ = roomy(s.Groups[i].Seats[j].M.Topics, "room")
		}
		s.Groups[i].Seats, _ = roomy(s.Groups[i].Seats, api.Seat{Seen: 9})
	}
	s.Groups, _ = roomy(s.Groups, api.Grouped{Name: "room"})
	return s
}

// whole is a copy of a state and of the room behind its lists.
func whole(s api.State) api.State {
	s.Topics, s.Epochs, s.Marks = s.Topics[:cap(s.Topics)], s.Epochs[:cap(s.Epochs)], s.Marks[:cap(s.Marks)]
	s.Logs, s.Makers, s.Groups = another(s.Logs[:cap(s.Logs)]), another(s.Makers[:cap(s.Makers)]), another(s.Groups[:cap(s.Groups)])
	for i, g := range s.Logs {
		l := another(g.Segs[:cap(g.Segs)])
		for j := range l {
			l[j].L = l[j].L[:cap(l[j].L)]
		}
		s.Logs[i].Segs = l
	}
	for i, m := range s.Makers {
		s.Makers[i].Last = m.Last[:cap(m.Last)]
	}
	for i, g := range s.Groups {
		l := another(g.Seats[:cap(g.Seats)])
		for j := range l {
			l[j].M.Topics = l[j].M.Topics[:cap(l[j].M.Topics)]
		}
		s.Groups[i].Seats = l
	}
	return apart(s)
}

// spoilAll fills all lists of a state, and the room behind them, from within.
func spoilAll(s api.State) {
	for _, g := range s.Logs {
		for _, x := range g.Segs {
			spoil(x.L, api.Found{Offset: 98, R: value("spoilt")})
		}
		spoil(g.Segs, api.Seg{Base: 98, Next: 99})
	}
	for _, m := range s.Makers {
		spoil(m.Last, api.Did{Seq: 98})
	}
	for _, g := range s.Groups {
		for _, x := range g.Seats {
			spoil(x.M.Topics, "spoilt")
		}
		spoil(g.Seats, api.Seat{Seen: 98})
	}
	spoil(s.Topics, api.Topic{Name: "spoilt"})
	spoil(s.Logs, api.Logged{Part: at("spoilt", 98)})
	spoil(s.Epochs, 98)
	spoil(s.Makers, api.Maker{Id: 98})
	spoil(s.Groups, api.Grouped{Name: "spoilt"})
	spoil(s.Marks, api.Mark{Group: "spoilt"})
}

// R4, R7

// What Load is handed in stays as it was, room and all, and may be spoilt afterwards.
func TestLoadKeepsNothing(t *testing.T) {
	for i, step := range steps() {
		s := room(told())
		was := whole(s)
		b, e := Load(s)
		if e != api.OK {
			t.Fatal(e)
		}
		p := &plain{told()}
		must(t, b, p, step)
		if !reflect.DeepEqual(whole(s), was) {
			t.Fatalf("%d: what was handed in is now\n%+v", i, s)
		}
		spoilAll(s)
		tells(t, b, p)
		for _, o := range steps() {
			does(t, b, p, o)
		}
	}
	// Of a state that is refused.
	for _, change := range []func(s *api.State){func(s *api.State) { s.Room = 0 }, func(s *api.State) { s.Marks[3].Offset = -1 }, func(s *api.State) { s.Groups[2].Gen = -1 }} {
		s := room(told())
		change(&s)
		was := whole(s)
		if _, e := Load(s); e != api.ErrBrokerForm || !reflect.DeepEqual(whole(s), was) {
			t.Errorf("%d, and it is now\n%+v", e, s)
		}
	}
}

// What is told is its owner's: spoilt, room and all, it changes nothing that is told then, and what is done then does not change it.
func TestStatesAreTheirOwners(t *testing.T) {
	for i, step := range steps() {
		b, p := busy(t)
		c, q := b.Copy(), p.copy()
		s, other := b.State(), b.State()
		spoilAll(s)
		if !reflect.DeepEqual(apart(other), told()) {
			t.Fatalf("%d: the other one is\n%+v", i, other)
		}
		tells(t, b, p)
		must(t, b, p, step)
		if !reflect.DeepEqual(apart(other), told()) {
			t.Fatalf("%d: what was told is now\n%+v", i, other)
		}
		tells(t, c, q)
	}
	// Each list has room of its own.
	b, _ := busy(t)
	s := b.State()
	was := apart(s)
	for i := range s.Logs {
		for j := range s.Logs[i].Segs {
			_ = append(s.Logs[i].Segs[j].L, api.Found{Offset: 98})
		}
		_ = append(s.Logs[i].Segs, api.Seg{Base: 98})
	}
	for i := range s.Makers {
		_ = append(s.Makers[i].Last, api.Did{Seq: 98})
	}
	for i := range s.Groups {
		for j := range s.Groups[i].Seats {
			_ = append(s.Groups[i].Seats[j].M.Topics, "more")
		}
		_ = append(s.Groups[i].Seats, api.Seat{Seen: 98})
	}
	if !reflect.DeepEqual(apart(s), was) {
		t.Errorf("it is now\n%+v", s)
	}
}

// P13.4

// walk draws a command by chance, near to what a broker in that state may do.
func walk(c *chance, s api.State) api.Op {
	topics, names := []string{"a", "b", "t"}, []string{"k", "l", "m", "n"}
	group, member := "g"+strconv.Itoa(c.below(3)), names[c.below(4)]
	part := at(topics[c.below(3)], c.below(3))
	last := 0
	for _, g := range s.Logs {
		if g.Part == part {
			last = g.Segs[len(g.Segs)-1].Next
		}
	}
	gen := 0
	for _, g := range s.Groups {
		if g.Name == group {
			gen = g.Gen
			if len(g.Seats) > 0 {
				member = g.Seats[c.below(len(g.Seats))].M.Name
			}
		}
	}
	if c.below(8) == 0 {
		gen += c.below(3) - 1
	}
	var records []api.Record
	for range 1 + c.below(3) {
		records = append(records, []api.Record{value("v"), keyed("k", "1"), keyed("l", strconv.Itoa(last)), tomb("k"), keyed("", "")}[c.below(5)])
	}
	switch c.below(16) {
	case 0:
		return topic(topics[c.below(3)], c.below(5))
	case 1:
		return producer(c.below(4))
	case 2, 3, 4, 5:
		return send(c, s, part, records)
	case 6:
		return fetch(part, max(0, last-c.below(9)), c.below(9))
	case 7:
		return retain(part, max(0, last-c.below(9)))
	case 8:
		return compact(part)
	case 9:
		o := join(group, names[c.below(4)], 1+c.below(9), [][]string{{"a", "b", "t"}, {"t"}, {"b", "t"}, {"a", "u"}}[c.below(4)]...)
		o.Robin = c.below(5) == 0
		return o
	case 10:
		return beat(group, member, gen)
	case 11:
		if c.below(3) == 0 {
			return leave(group, member, gen)
		}
		return assigned(group, member, gen)
	case 12, 13:
		return commit(group, member, gen, part, max(0, last+1-c.below(6)))
	case 14:
		return committed(group, part)
	}
	return tick(c.below(3))
}

// send draws a batch: the one that is due, one that was sent already, or any.
func send(c *chance, s api.State, part api.Part, l []api.Record) api.Op {
	id := c.below(4)
	o := produce(part, id, 0, c.below(5), l...)
	if id == 0 || id > len(s.Epochs) {
		return o
	}
	o.Batch.Epoch, o.Batch.Seq = s.Epochs[id-1], 0
	for _, m := range s.Makers {
		if m.Id != id || m.Part != part {
			continue
		}
		d := m.Last[len(m.Last)-1]
		o.Batch.Seq = d.Seq + d.N
		if c.below(3) == 0 {
			d = m.Last[c.below(len(m.Last))]
			o.Batch.Seq, o.Batch.Records = d.Seq, values(d.N)
		}
	}
	switch c.below(16) {
	case 0:
		o.Batch.Epoch++
	case 1:
		o.Batch.Epoch = max(0, o.Batch.Epoch-1)
	case 2, 3:
		o.Batch.Seq = max(0, o.Batch.Seq-2+c.below(5))
	}
	return o
}

// sent is a batch of a producer to a partition.
type sent struct {
	id, epoch, seq, n int
	part              api.Part
}

// ends are the offsets at which logs end.
func ends(s api.State) map[api.Part]int {
	m := map[api.Part]int{}
	for _, g := range s.Logs {
		m[g.Part] = g.Segs[len(g.Segs)-1].Next
	}
	return m
}

// follows tells what does not follow of what was done: offsets rise by one, a batch that is sent again is appended once, marks do not go back.
func follows(t *testing.T, o api.Op, r api.Reply, was, now api.State, had map[sent]int) {
	t.Helper()
	before := ends(was)
	for part, at := range ends(now) {
		more := 0
		if o.Kind == api.OpProduce && r.E == api.OK && r.N == 0 && o.Part == part {
			more = len(o.Batch.Records)
			if r.Offset != before[part] {
				t.Fatalf("Do(%+v): %+v, where %d is the end", o, r, before[part])
			}
		}
		if at != before[part]+more {
			t.Fatalf("Do(%+v): %v ends at %d, not at %d and %d", o, part, at, before[part], more)
		}
	}
	if k := (sent{o.Batch.Producer, o.Batch.Epoch, o.Batch.Seq, len(o.Batch.Records), o.Part}); o.Kind == api.OpProduce && r.E == api.OK && k.id > 0 {
		offset, again := had[k]
		if again != (r.N == 1) || again && offset != r.Offset {
			t.Fatalf("Do(%+v): %+v; it was sent before: %v, %d", o, r, again, offset)
		}
		had[k] = r.Offset
	}
	marks := map[api.Mark]int{}
	for _, m := range now.Marks {
		marks[api.Mark{Group: m.Group, Part: m.Part}] = m.Offset
	}
	for _, m := range was.Marks {
		offset, is := marks[api.Mark{Group: m.Group, Part: m.Part}]
		if !is || offset < m.Offset || offset > m.Offset && o.Kind != api.OpRetain && o.Kind != api.OpCommit {
			t.Fatalf("Do(%+v): %+v came to %d, %v", o, m, offset, is)
		}
	}
}

// Whatever happens, a broker answers as its plain one does, and so do its copies, and those that are loaded with what it told.
func TestAnythingInAnyOrder(t *testing.T) {
	done := map[[2]int]int{}
	for seed := range 60 {
		c := chance(seed)
		b, p := mustNew(t, 1+seed%5)
		others := []*Broker{b.Copy()}
		had := map[sent]int{}
		for range 500 {
			was := apart(p.s)
			o := walk(&c, was)
			r := does(t, b, p, o)
			done[[2]int{o.Kind, int(r.E)}]++
			follows(t, o, r, was, p.s, had)
			for i, other := range others {
				if got := other.Do(o); !request.Alike(got, r) {
					t.Fatalf("%d: the other one, %d, does %+v: %+v, want %+v", seed, i, o, got, r)
				}
			}
			switch c.below(50) {
			case 0:
				others = append(others[max(0, len(others)-2):], b.Copy())
			case 1:
				again, e := Load(b.State())
				if e != api.OK {
					t.Fatalf("%d: Load of what was told: %d", seed, e)
				}
				others = append(others[max(0, len(others)-2):], b)
				b = again
			}
		}
		for _, other := range others {
			tells(t, other, p)
		}
	}
	for kind := range api.OpKinds {
		if done[[2]int{kind, 0}] == 0 {
			t.Errorf("none of kind %d was done", kind)
		}
	}
	for _, e := range []api.Errno{
		api.ErrArg, api.ErrBig, api.ErrTopicsThere, api.ErrTopicsNone, api.ErrDedupNone, api.ErrDedupFence, api.ErrDedupOrder, api.ErrLogBelow, api.ErrLogAbove,
		api.ErrGroupNone, api.ErrGroupGen, api.ErrGroupMode, api.ErrBrokerOther, api.ErrOffsetsBack,
	} {
		n := 0
		for k, many := range done {
			if k[1] == int(e) {
				n += many
			}
		}
		if n == 0 {
			t.Errorf("no error was %d", e)
		}
	}
}

// Sent again, at any time as one of the last five, it is appended once.
func TestSentAgainIsAppendedOnce(t *testing.T) {
	for times := 1; times <= 4; times++ {
		b, p := mustNew(t, 3, topic("t", 1), producer(0))
		part := at("t", 0)
		seq := 0
		for i := range 20 {
			l := values(1 + i%3)
			for j := range times {
				want := api.Reply{Offset: seq}
				if j > 0 {
					want.N = 1
				}
				run(t, b, p, row{produce(part, 1, 0, seq, l...), want})
				b, p = mustLoad(t, b.State())
			}
			seq += len(l)
		}
		if at := ends(b.State())[part]; at != seq {
			t.Errorf("%d times: the end is %d, not %d", times, at, seq)
		}
	}
}

// Whoever has the partition reads on from where its group was: nobody else says so, and none goes back.
func TestMarksNeverGoBack(t *testing.T) {
	b, p := mustNew(t, 4, topic("t", 1), produce(at("t", 0), 0, 0, 0, value("0")), join("g", "m", 1, "t"), commit("g", "m", 1, at("t", 0), 1), leave("g", "m", 1))
	part, gen := at("t", 0), 2
	for i := 1; i < 30; i++ {
		name := "m" + strconv.Itoa(i)
		must(t, b, p, produce(part, 0, 0, 0, value("v")), join("g", name, 1, "t"))
		gen++
		run(t, b, p,
			row{commit("g", name, gen, part, i-1), is(api.ErrOffsetsBack)},
			row{commit("g", name, gen-1, part, i+1), is(api.ErrGroupGen)},
			row{commit("g", "m", gen, part, i+1), is(api.ErrGroupNone)},
			row{committed("g", part), api.Reply{Offset: i, N: 1}},
			row{commit("g", name, gen, part, i+1), api.Reply{}},
			row{committed("g", part), api.Reply{Offset: i + 1, N: 1}},
		)
		if i%2 == 0 {
			must(t, b, p, leave("g", name, gen))
		} else {
			must(t, b, p, tick(1))
		}
		gen++
		if i%3 == 0 {
			b, p = mustLoad(t, b.State())
		}
	}
}
