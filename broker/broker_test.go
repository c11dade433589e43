package broker

import (
	"math"
	"runtime"
	"slices"
	"strconv"
	"strings"
	"testing"

	"stagecoach/api"
	"stagecoach/request"
)

// numbers are at the edges.
func numbers() []int {
	return []int{math.MinInt, -most - 1, -most, -1 << 32, -1, 0, 1, 2, 3, 8, 9, 63, 64, 65, 1 << 32, most - 1, most, most + 1, 1 << 41, math.MaxInt - 1, math.MaxInt}
}

// badNames are no names.
func badNames() []string {
	return []string{"", "G", "g n", "g_", "g.", "g\x00", "\xff", "\u00e9", strings.Repeat("g", 17), strings.Repeat("g", 1000)}
}

// places are the offsets of what was found.
func places(l []api.Found) []int {
	var out []int
	for _, f := range l {
		out = append(out, f.Offset)
	}
	return out
}

// found are records, each with its offset, from one on.
func found(from int, l ...api.Record) []api.Found {
	var out []api.Found
	for i, r := range l {
		out = append(out, api.Found{Offset: from + i, R: r})
	}
	return out
}

// story makes a broker of room 4 busy: it has something of all that a broker may have, and members of groups in either way.
func story() []api.Op {
	return []api.Op{
		topic("t", 3), topic("a", 1), topic("b-2", 2),
		producer(0), producer(0), producer(2), producer(0),
		produce(at("t", 0), 1, 0, 0, keyed("k", "1"), value("2")),
		produce(at("t", 0), 1, 0, 2, keyed("k", "3"), keyed("l", "4"), tomb("m")),
		produce(at("t", 2), 1, 0, 0, value("5")),
		produce(at("t", 0), 2, 1, 0, keyed("l", "6")),
		produce(at("a", 0), 0, 0, 0, keyed("", "7"), value("8"), value("9")),
		produce(at("a", 0), 0, 0, 0, keyed("", "10"), value("11")),
		produce(at("a", 0), 2, 1, 0, tomb(""), value("12"), value("13"), value("14")),
		tick(3),
		join("g", "m", 9, "a", "t"), join("g", "n", 5, "t"),
		joinRobin("h", "x", most, "a", "b-2"), joinRobin("h", "y", 7, "b-2", "no-such"),
		join("e", "m", 1, "t"), leave("e", "m", 1),
		commit("g", "m", 2, at("t", 0), 3), commit("g", "m", 2, at("a", 0), 9), commit("h", "y", 2, at("b-2", 0), 0), commit("h", "x", 2, at("a", 0), 1),
		tick(2), beat("g", "m", 2),
		compact(at("t", 0)), retain(at("a", 0), 3),
	}
}

func busy(t *testing.T) (*Broker, *plain) {
	t.Helper()
	return mustNew(t, 4, story()...)
}

// The chapter's example.

func TestExample(t *testing.T) {
	b, e := New(4)
	if e != api.OK {
		t.Fatal(e)
	}
	if r := b.Do(api.Op{Kind: api.OpTopic, Part: api.Part{Topic: "t"}, N: 1}); r.E != api.OK {
		t.Errorf("OpTopic: %+v", r)
	}
	two := api.Batch{Records: []api.Record{{Value: "first"}, {Value: "second"}}}
	if r := b.Do(api.Op{Kind: api.OpProduce, Part: api.Part{Topic: "t"}, Batch: two}); r.E != api.OK || r.Offset != 0 {
		t.Errorf("OpProduce: %+v", r)
	}
	r := b.Do(api.Op{Kind: api.OpFetch, Part: api.Part{Topic: "t"}, Offset: 1, N: 5})
	if want := []api.Found{{Offset: 1, R: api.Record{Value: "second"}}}; r.E != api.OK || r.Offset != 2 || !slices.Equal(r.Found, want) {
		t.Errorf("OpFetch: %+v", r)
	}
}

func TestNumbersOfApi(t *testing.T) {
	for got, want := range map[api.Errno]int{
		api.ErrArg: 1, api.ErrBig: 2, api.ErrBrokerOther: 130, api.ErrBrokerForm: 131,
		api.ErrRequestForm: 40, api.ErrRequestKind: 41, api.ErrSegmentFull: 50, api.ErrLogBelow: 60, api.ErrLogAbove: 61,
		api.ErrDedupNone: 80, api.ErrDedupFence: 81, api.ErrDedupOrder: 82, api.ErrTopicsThere: 90, api.ErrTopicsNone: 91,
		api.ErrGroupNone: 110, api.ErrGroupGen: 111, api.ErrGroupMode: 112, api.ErrOffsetsBack: 120,
	} {
		if int(got) != want {
			t.Errorf("an error is %d, not %d", got, want)
		}
	}
	if api.MaxOffset != most || api.MaxGroups != 8 || api.MaxFetch != 64 || api.OpKinds != 13 {
		t.Error("limits are not the chapter's")
	}
}

// P13.1

func TestNew(t *testing.T) {
	for room := -2; room <= 70; room++ {
		b, e := New(room)
		if room < 1 || room > 64 {
			if b != nil || e != api.ErrArg {
				t.Errorf("New(%d): %v, %d", room, b, e)
			}
			continue
		}
		if b == nil || e != api.OK {
			t.Fatalf("New(%d): %v, %d", room, b, e)
		}
		tells(t, b, &plain{api.State{Room: room}})
	}
	for _, room := range numbers() {
		if b, e := New(room); (room < 1 || room > 64) && (b != nil || e != api.ErrArg) {
			t.Errorf("New(%d): %v, %d", room, b, e)
		}
	}
	// One does not hear of another one.
	b, p := mustNew(t, 4)
	other, q := mustNew(t, 4)
	must(t, b, p, story()...)
	tells(t, other, q)
}

func TestANewOneHasNothing(t *testing.T) {
	b, p := mustNew(t, 4)
	run(t, b, p,
		row{fetch(at("t", 0), 0, 1), is(api.ErrTopicsNone)},
		row{produce(at("t", 0), 0, 0, 0, value("v")), is(api.ErrTopicsNone)},
		row{retain(at("t", 0), 0), is(api.ErrTopicsNone)},
		row{compact(at("t", 0)), is(api.ErrTopicsNone)},
		row{committed("g", at("t", 0)), is(api.ErrTopicsNone)},
		row{producer(1), is(api.ErrDedupNone)},
		row{beat("g", "m", 0), is(api.ErrGroupNone)},
		row{leave("g", "m", 0), is(api.ErrGroupNone)},
		row{assigned("g", "m", 0), is(api.ErrGroupNone)},
		row{commit("g", "m", 0, at("t", 0), 0), is(api.ErrGroupNone)},
		row{tick(0), api.Reply{}},
	)
}

// The logs' segments have as many records as New was told.
func TestLogsHaveTheirRoom(t *testing.T) {
	for _, room := range []int{1, 2, 3, 15, 16, 17, 63, 64} {
		b, p := mustNew(t, room, topic("t", 2))
		for i, part := range []api.Part{at("t", 0), at("t", 1)} {
			for n := range 2 * room {
				run(t, b, p, row{produce(part, 0, 0, 0, value("v")), api.Reply{Offset: n}})
			}
			if segs := b.State().Logs[i].Segs; len(segs) != 2 || segs[0].Next != room || segs[1].Next != 2*room {
				t.Errorf("room %d: %v", room, segs)
			}
			if room < 16 {
				run(t, b, p, row{produce(part, 0, 0, 0, values(room+1)...), is(api.ErrBig)})
			}
			run(t, b, p, row{produce(part, 0, 0, 0, values(min(room, 16))...), api.Reply{Offset: 2 * room}})
		}
	}
}

// P13.2

// faults are commands that may not be, by their errors.
func faults() map[api.Errno][]api.Op {
	var kinds, forms, args []api.Op
	for _, kind := range []int{-1, 13, 14, 1 << 32, -1 << 32, math.MinInt, math.MaxInt} {
		kinds = append(kinds, api.Op{Kind: kind}, api.Op{Kind: kind, Part: at("t", 0), N: 1, Offset: 1})
	}
	for _, bad := range badNames() {
		forms = append(forms, topic(bad, 1), fetch(at(bad, 0), 0, 1), produce(at(bad, 0), 0, 0, 0, value("v")), retain(at(bad, 0), 0), compact(at(bad, 0)),
			join(bad, "m", 1, "t"), join("g", bad, 1, "t"), join("g", "m", 1, bad), join("g", "m", 1, "t", bad), beat(bad, "m", 2), beat("g", bad, 2),
			leave(bad, "m", 2), leave("g", bad, 2), assigned(bad, "m", 2), assigned("g", bad, 2), commit(bad, "m", 2, at("t", 0), 4), commit("g", bad, 2, at("t", 0), 4),
			commit("g", "m", 2, at(bad, 0), 4), committed(bad, at("t", 0)), committed("g", at(bad, 0)))
	}
	forms = append(forms, join("g", "m", 1), join("g", "m", 1, "t", "a"), join("g", "m", 1, "t", "t"), join("g", "m", 1, "a", "b", "c", "d", "e", "f", "g", "h", "i"))
	for _, n := range numbers() {
		if n >= 0 && n <= most {
			continue
		}
		args = append(args, topic("new", n), producer(n), fetch(at("t", 0), n, 1), fetch(at("t", 0), 0, n), fetch(at("t", n), 0, 1), retain(at("t", 0), n), compact(at("t", n)),
			produce(at("t", n), 0, 0, 0, value("v")), produce(at("t", 0), n, 0, 0, value("v")), produce(at("t", 0), 1, n, 5, value("v")), produce(at("t", 0), 1, 0, n, value("v")),
			join("g", "m", n, "t"), beat("g", "m", n), leave("g", "m", n), assigned("g", "m", n), commit("g", "m", n, at("t", 0), 4), commit("g", "m", 2, at("t", n), 4), commit("g", "m", 2, at("t", 0), n),
			committed("g", at("t", n)), tick(n))
	}
	send := func(l ...api.Record) api.Op { return produce(at("t", 0), 0, 0, 0, l...) }
	return map[api.Errno][]api.Op{
		api.ErrRequestKind: kinds,
		api.ErrRequestForm: append(forms, more()...),
		api.ErrArg:         args,
		api.ErrBig:         {send(values(17)...), send(value(strings.Repeat("v", 513))), send(keyed(strings.Repeat("k", 65), ""))},
		api.ErrRecordForm:  {send(), send(api.Record{Tomb: true}), send(api.Record{Key: "k"}), send(value("v"), api.Record{HasKey: true, Tomb: true, Value: "v"})},
	}
}

// right is a command of each kind that the busy broker does without an error.
func right() []api.Op {
	return []api.Op{
		topic("new", 2), producer(0), produce(at("t", 0), 1, 0, 5, value("v")), fetch(at("t", 0), 2, 9), retain(at("t", 0), 2), compact(at("a", 0)), join("g", "o", 3, "t"),
		beat("g", "m", 2), leave("g", "m", 2), assigned("g", "m", 2), commit("g", "m", 2, at("t", 0), 4), committed("g", at("t", 0)), tick(1),
	}
}

// more are commands that have something else than their kind has.
func more() []api.Op {
	has := []string{"TN", "N", "TPB", "TPON", "TPO", "TP", "GMNRS", "GME", "GME", "GME", "GMETPO", "GTP", "N"}
	var l []api.Op
	for kind, o := range right() {
		for letter, add := range map[string]func(o *api.Op){
			"T": func(o *api.Op) { o.Part.Topic = "t" },
			"P": func(o *api.Op) { o.Part.N = 1 },
			"N": func(o *api.Op) { o.N = 1 },
			"O": func(o *api.Op) { o.Offset = 1 },
			"B": func(o *api.Op) { o.Batch.Records = values(1) },
			"G": func(o *api.Op) { o.Group = "g" },
			"M": func(o *api.Op) { o.Member = "m" },
			"E": func(o *api.Op) { o.Gen = 2 },
			"R": func(o *api.Op) { o.Robin = true },
			"S": func(o *api.Op) { o.Topics = []string{"t"} },
		} {
			if !strings.Contains(has[kind], letter) {
				one := o
				add(&one)
				l = append(l, one)
			}
		}
	}
	return l
}

func TestEachKindIsDone(t *testing.T) {
	for kind, o := range right() {
		if o.Kind != kind {
			t.Fatalf("%d: %+v", kind, o)
		}
		b, p := busy(t)
		must(t, b, p, o)
	}
}

// A command that may not be has request.Check's error, and changes nothing.
func TestCommandsThatMayNotBe(t *testing.T) {
	for want, l := range faults() {
		b, p := busy(t)
		for i, o := range l {
			if e := request.Check(o); e != want {
				t.Fatalf("%d: Check of %+v is %d", i, o, e)
			}
			run(t, b, p, row{o, is(want)})
		}
		none, q := mustNew(t, 4)
		for _, o := range l {
			run(t, none, q, row{o, is(want)})
		}
	}
}

func TestTopic(t *testing.T) {
	b, p := mustNew(t, 4)
	run(t, b, p,
		row{topic("b", 2), api.Reply{}},
		// There is one: with as many partitions, with more, with fewer.
		row{topic("b", 2), is(api.ErrTopicsThere)},
		row{topic("b", 8), is(api.ErrTopicsThere)},
		row{topic("b", 1), is(api.ErrTopicsThere)},
		// Partitions that may not be; of one that is there, too.
		row{topic("c", 0), is(api.ErrArg)},
		row{topic("c", 9), is(api.ErrArg)},
		row{topic("c", most), is(api.ErrArg)},
		row{topic("b", 0), is(api.ErrArg)},
		row{topic("b", 9), is(api.ErrArg)},
		// Each partition has an empty log, and there are no others.
		row{fetch(at("b", 0), 0, 1), api.Reply{}},
		row{fetch(at("b", 1), 0, 1), api.Reply{}},
		row{fetch(at("b", 2), 0, 1), is(api.ErrTopicsNone)},
		row{fetch(at("c", 0), 0, 1), is(api.ErrTopicsNone)},
		row{topic("a", 8), api.Reply{}},
		row{produce(at("a", 7), 0, 0, 0, value("v")), api.Reply{}},
		row{topic("c", 1), api.Reply{}},
		row{fetch(at("a", 7), 0, 1), api.Reply{Offset: 1, Found: found(0, value("v"))}},
		row{topic("a", 8), is(api.ErrTopicsThere)},
		row{fetch(at("a", 7), 0, 1), api.Reply{Offset: 1, Found: found(0, value("v"))}},
	)
	for _, name := range []string{"-", "9", "0123456789abcdef", "d", "e"} {
		run(t, b, p, row{topic(name, 1), api.Reply{}})
	}
	// There are eight.
	run(t, b, p,
		row{topic("f", 1), is(api.ErrBig)},
		row{topic("f", 9), is(api.ErrArg)},
		row{topic("a", 1), is(api.ErrTopicsThere)},
	)
}

func TestProducer(t *testing.T) {
	b, p := mustNew(t, 4, topic("t", 1))
	run(t, b, p,
		row{producer(1), is(api.ErrDedupNone)},
		row{producer(0), api.Reply{N: 1}},
		row{producer(2), is(api.ErrDedupNone)},
		row{producer(1), api.Reply{N: 1, Gen: 1}},
		row{producer(1), api.Reply{N: 1, Gen: 2}},
		row{producer(0), api.Reply{N: 2}},
		row{producer(1), api.Reply{N: 1, Gen: 3}},
	)
	for id := 3; id <= 32; id++ {
		run(t, b, p, row{producer(0), api.Reply{N: id}})
	}
	run(t, b, p,
		row{producer(0), is(api.ErrBig)},
		row{producer(33), is(api.ErrDedupNone)},
		row{producer(most), is(api.ErrDedupNone)},
		row{producer(32), api.Reply{N: 32, Gen: 1}},
		row{producer(0), is(api.ErrBig)},
	)
	b, p = mustLoad(t, api.State{Room: 1, Epochs: []int{most, most - 1}})
	run(t, b, p,
		row{producer(1), is(api.ErrBig)},
		row{producer(2), api.Reply{N: 2, Gen: most}},
		row{producer(2), is(api.ErrBig)},
		row{producer(0), api.Reply{N: 3}},
	)
}

func TestProduce(t *testing.T) {
	b, p := mustNew(t, 3, topic("t", 2), producer(0))
	part := at("t", 0)
	run(t, b, p,
		// To a partition that is none.
		row{produce(at("t", 2), 1, 0, 0, value("v")), is(api.ErrTopicsNone)},
		row{produce(at("u", 0), 1, 0, 0, value("v")), is(api.ErrTopicsNone)},
		row{produce(at("t", most), 1, 0, 0, value("v")), is(api.ErrTopicsNone)},
		// Of a producer that is none, and of an epoch that is to come.
		row{produce(part, 2, 0, 0, value("v")), is(api.ErrDedupNone)},
		row{produce(part, most, 0, 0, value("v")), is(api.ErrDedupNone)},
		row{produce(part, 1, 1, 0, value("v")), is(api.ErrDedupNone)},
		// Not the number that is due.
		row{produce(part, 1, 0, 1, value("v")), is(api.ErrDedupOrder)},
		// Records that the log doesn't take: the number is due still.
		row{produce(part, 1, 0, 0, values(4)...), is(api.ErrBig)},
		row{produce(part, 1, 0, 0, value("0"), value("1")), api.Reply{}},
		row{produce(part, 1, 0, 2, values(4)...), is(api.ErrBig)},
		row{produce(part, 1, 0, 2, value("2")), api.Reply{Offset: 2}},
		row{produce(part, 1, 0, 3, values(3)...), api.Reply{Offset: 3}},
		// Sent again: the last one, and others; it is not asked what the records are.
		row{produce(part, 1, 0, 3, values(3)...), api.Reply{Offset: 3, N: 1}},
		row{produce(part, 1, 0, 2, value("2")), api.Reply{Offset: 2, N: 1}},
		row{produce(part, 1, 0, 0, value("0"), value("1")), api.Reply{Offset: 0, N: 1}},
		row{produce(part, 1, 0, 0, tomb("x"), tomb("y")), api.Reply{Offset: 0, N: 1}},
		// As many records as another one, or from within one, or behind a gap.
		row{produce(part, 1, 0, 0, value("0")), is(api.ErrDedupOrder)},
		row{produce(part, 1, 0, 1, value("1")), is(api.ErrDedupOrder)},
		row{produce(part, 1, 0, 7, value("v")), is(api.ErrDedupOrder)},
		row{produce(part, 1, 0, most, value("v")), is(api.ErrDedupOrder)},
		// Nobody's batches are appended as often as they come, whatever their numbers.
		row{produce(part, 0, 0, 0, value("6")), api.Reply{Offset: 6}},
		row{produce(part, 0, 7, 0, value("7")), api.Reply{Offset: 7}},
		row{produce(part, 0, 0, 9, value("8")), api.Reply{Offset: 8}},
		row{produce(part, 0, 0, 0, values(4)...), is(api.ErrBig)},
		// Another partition has numbers of its own.
		row{produce(at("t", 1), 1, 0, 6, value("v")), is(api.ErrDedupOrder)},
		row{produce(at("t", 1), 1, 0, 0, value("v")), api.Reply{}},
		// A further epoch begins anew, and the old one is over.
		row{producer(1), api.Reply{N: 1, Gen: 1}},
		row{produce(part, 1, 0, 6, value("v")), is(api.ErrDedupFence)},
		row{produce(part, 1, 0, 3, values(3)...), is(api.ErrDedupFence)},
		row{produce(part, 1, 2, 0, value("v")), is(api.ErrDedupNone)},
		row{produce(part, 1, 1, 6, value("v")), is(api.ErrDedupOrder)},
		row{produce(part, 1, 1, 0, value("9")), api.Reply{Offset: 9}},
		row{produce(part, 1, 1, 0, value("9")), api.Reply{Offset: 9, N: 1}},
		row{fetch(part, 8, 5), api.Reply{Offset: 10, Found: found(8, value("8"), value("9"))}},
	)
}

// The last five batches are remembered, and no others; that their records went makes no difference.
func TestProduceAgain(t *testing.T) {
	b, p := mustNew(t, 2, topic("t", 1), producer(0))
	part := at("t", 0)
	for i := range 9 {
		run(t, b, p, row{produce(part, 1, 0, i, keyed("k", strconv.Itoa(i))), api.Reply{Offset: i}})
		for j := range i + 1 {
			want := api.Reply{Offset: j, N: 1}
			if j < i-4 {
				want = is(api.ErrDedupOrder)
			}
			run(t, b, p, row{produce(part, 1, 0, j, value("again")), want})
		}
	}
	must(t, b, p, compact(part), retain(part, 8))
	run(t, b, p,
		row{produce(part, 1, 0, 4, value("again")), api.Reply{Offset: 4, N: 1}},
		row{produce(part, 1, 0, 3, value("again")), is(api.ErrDedupOrder)},
		row{produce(part, 1, 0, 9, value("next")), api.Reply{Offset: 9}},
	)
}

// What the log takes is asked behind what was appended already.
func TestProduceAtTheEdges(t *testing.T) {
	part := at("t", 0)
	state := func(room, next int, l ...api.Maker) api.State {
		return api.State{Room: room, Topics: []api.Topic{{Name: "t", N: 1}}, Logs: []api.Logged{{Part: part, Segs: []api.Seg{{Base: next, Next: next}}}}, Epochs: []int{5}, Makers: l}
	}
	b, p := mustLoad(t, state(2, 0, api.Maker{Id: 1, Epoch: 5, Part: part, Last: []api.Did{{Seq: 0, N: 3, Offset: 7}}}))
	run(t, b, p,
		row{produce(part, 1, 5, 0, values(3)...), api.Reply{Offset: 7, N: 1}},
		row{produce(part, 1, 5, 0, values(4)...), is(api.ErrDedupOrder)},
		row{produce(part, 1, 4, 3, values(3)...), is(api.ErrDedupFence)},
		row{produce(part, 1, 6, 3, values(3)...), is(api.ErrDedupNone)},
		row{produce(part, 1, 5, 3, values(3)...), is(api.ErrBig)},
		row{produce(part, 1, 5, 3, values(2)...), api.Reply{}},
	)
	// Where the log ends there are no offsets any more.
	b, p = mustLoad(t, state(3, most-2))
	run(t, b, p,
		row{produce(part, 1, 5, 0, values(3)...), is(api.ErrSegmentFull)},
		row{produce(part, 1, 5, 0, values(4)...), is(api.ErrBig)},
		row{produce(part, 1, 5, 0, values(2)...), api.Reply{Offset: most - 2}},
		row{produce(part, 1, 5, 0, values(2)...), api.Reply{Offset: most - 2, N: 1}},
		row{produce(part, 1, 5, 2, values(1)...), is(api.ErrSegmentFull)},
		row{produce(part, 1, 5, 3, values(1)...), is(api.ErrDedupOrder)},
		row{produce(part, 0, 0, 0, values(1)...), is(api.ErrSegmentFull)},
		row{fetch(part, most, 9), api.Reply{Offset: most, N: most - 2}},
		row{fetch(part, most-1, 9), api.Reply{Offset: most, N: most - 2, Found: found(most-1, value("v"))}},
		row{retain(part, most), api.Reply{Offset: most - 2}},
	)
	// Where a producer has no numbers any more.
	b, p = mustLoad(t, state(3, 0, api.Maker{Id: 1, Epoch: 5, Part: part, Last: []api.Did{{Seq: most - 1, N: 1}}}))
	run(t, b, p,
		row{produce(part, 1, 5, most, values(2)...), api.Reply{}},
		row{produce(part, 1, 5, most, values(2)...), api.Reply{N: 1}},
		row{produce(part, 1, 5, most+2, values(1)...), is(api.ErrArg)},
		row{produce(part, 1, 5, 0, values(1)...), is(api.ErrDedupOrder)},
	)
}

func TestFetch(t *testing.T) {
	b, p := mustNew(t, 4, topic("t", 2))
	part := at("t", 0)
	l := []api.Record{keyed("k", "0"), value("1"), tomb("k"), value(""), keyed("", "4"), value("5"), value("6")}
	for _, r := range l {
		must(t, b, p, produce(part, 0, 0, 0, r))
	}
	all := found(0, l...)
	for from := range 8 {
		for n := range 9 {
			run(t, b, p, row{fetch(part, from, n), api.Reply{Offset: 7, Found: all[from:min(from+n, 7)]}})
		}
		run(t, b, p, row{fetch(part, from, most), api.Reply{Offset: 7, Found: all[from:]}})
	}
	run(t, b, p,
		row{fetch(part, 8, 1), is(api.ErrLogAbove)},
		row{fetch(part, 8, 0), is(api.ErrLogAbove)},
		row{fetch(part, most, 1), is(api.ErrLogAbove)},
		row{fetch(at("t", 1), 0, 1), api.Reply{}},
		row{fetch(at("t", 1), 1, 1), is(api.ErrLogAbove)},
		row{fetch(at("t", 2), 0, 1), is(api.ErrTopicsNone)},
		row{fetch(at("t", 2), 9, 1), is(api.ErrTopicsNone)},
		row{fetch(at("u", 0), 0, 1), is(api.ErrTopicsNone)},
		// Behind what went: the key stands in 0 and 2, both in the first segment, and 0 goes; then the whole segment does.
		row{compact(part), api.Reply{N: 1}},
		row{fetch(part, 0, 2), api.Reply{Offset: 7, Found: all[1:3]}},
		row{retain(part, 4), api.Reply{Offset: 4, N: 1}},
		row{fetch(part, 3, 2), is(api.ErrLogBelow)},
		row{fetch(part, 0, 0), is(api.ErrLogBelow)},
		row{fetch(part, 4, 2), api.Reply{Offset: 7, N: 4, Found: all[4:6]}},
		row{fetch(part, 7, 2), api.Reply{Offset: 7, N: 4}},
		row{fetch(part, 8, 2), is(api.ErrLogAbove)},
	)
}

// No more than 64 records are told, of however many segments.
func TestFetchOfMany(t *testing.T) {
	for _, room := range []int{1, 7, 64} {
		b, p := mustNew(t, room, topic("t", 1))
		part := at("t", 0)
		for range 150 {
			must(t, b, p, produce(part, 0, 0, 0, value("v")))
		}
		for _, x := range []struct{ from, n, want int }{
			{0, 63, 63}, {0, 64, 64}, {0, 65, 64}, {0, 150, 64}, {0, most, 64}, {5, 65, 64}, {85, 99, 64}, {86, 64, 64}, {86, 65, 64}, {87, 64, 63}, {87, most, 63}, {149, 64, 1}, {150, 64, 0}, {0, 0, 0},
		} {
			r := does(t, b, p, fetch(part, x.from, x.n))
			if r.E != api.OK || r.Offset != 150 || r.N != 0 || len(r.Found) != x.want {
				t.Errorf("room %d, %d from %d: %+v", room, x.n, x.from, r)
			}
			for i, f := range r.Found {
				if f.Offset != x.from+i {
					t.Errorf("room %d, %d from %d: %v", room, x.n, x.from, places(r.Found))
					break
				}
			}
		}
	}
}

// shared is a broker of room 2 with seven records in partition t 0, that begins at from, and marks of it.
func shared(t *testing.T) (*Broker, *plain) {
	t.Helper()
	b, p := mustNew(t, 2, topic("t", 2), topic("u", 1))
	for range 7 {
		must(t, b, p, produce(at("t", 0), 0, 0, 0, value("v")), produce(at("t", 1), 0, 0, 0, value("v")), produce(at("u", 0), 0, 0, 0, value("v")))
	}
	for i, group := range []string{"g", "h", "i"} {
		must(t, b, p, join(group, "m", 9, "t", "u"), commit(group, "m", 1, at("t", 0), 2*i), commit(group, "m", 1, at("t", 1), 0))
	}
	must(t, b, p, commit("g", "m", 1, at("u", 0), 1))
	return b, p
}

func TestRetain(t *testing.T) {
	for _, x := range []struct {
		offset, n, start int
		marks            [3]int
	}{
		{0, 0, 0, [3]int{0, 2, 4}},
		{1, 0, 0, [3]int{0, 2, 4}},
		{2, 1, 2, [3]int{2, 2, 4}},
		{3, 1, 2, [3]int{2, 2, 4}},
		{4, 2, 4, [3]int{4, 4, 4}},
		{5, 2, 4, [3]int{4, 4, 4}},
		{6, 3, 6, [3]int{6, 6, 6}},
		{7, 3, 6, [3]int{6, 6, 6}},
		{8, 3, 6, [3]int{6, 6, 6}},
		{most, 3, 6, [3]int{6, 6, 6}},
	} {
		b, p := shared(t)
		run(t, b, p, row{retain(at("t", 0), x.offset), api.Reply{Offset: x.start, N: x.n}})
		for i, group := range []string{"g", "h", "i"} {
			run(t, b, p,
				row{committed(group, at("t", 0)), api.Reply{Offset: x.marks[i], N: 1}},
				// Other partitions have marks of their own.
				row{committed(group, at("t", 1)), api.Reply{N: 1}},
			)
		}
		run(t, b, p,
			row{committed("g", at("u", 0)), api.Reply{Offset: 1, N: 1}},
			row{committed("h", at("u", 0)), api.Reply{}},
			row{fetch(at("t", 0), x.start, 1), api.Reply{Offset: 7, N: x.start, Found: found(x.start, value("v"))}},
			row{fetch(at("t", 1), 0, 1), api.Reply{Offset: 7, Found: found(0, value("v"))}},
			// The same again finds nothing, nor does one below it.
			row{retain(at("t", 0), x.offset), api.Reply{Offset: x.start}},
			row{retain(at("t", 0), 0), api.Reply{Offset: x.start}},
			row{retain(at("t", 2), 0), is(api.ErrTopicsNone)},
			row{retain(at("v", 0), 0), is(api.ErrTopicsNone)},
		)
	}
}

// A mark below where the log begins is raised, though no segment goes.
func TestRetainOfNothing(t *testing.T) {
	b, p := shared(t)
	must(t, b, p, retain(at("t", 0), 4), join("j", "m", 9, "t"))
	run(t, b, p,
		row{commit("j", "m", 1, at("t", 0), 1), api.Reply{}},
		row{committed("j", at("t", 0)), api.Reply{Offset: 1, N: 1}},
		row{retain(at("t", 0), 0), api.Reply{Offset: 4}},
		row{committed("j", at("t", 0)), api.Reply{Offset: 4, N: 1}},
		row{commit("j", "m", 1, at("t", 0), 3), is(api.ErrOffsetsBack)},
		row{commit("j", "m", 1, at("t", 0), 4), api.Reply{}},
	)
}

func TestCompact(t *testing.T) {
	b, p := mustNew(t, 3, topic("t", 2))
	part := at("t", 0)
	run(t, b, p,
		row{compact(part), api.Reply{}},
		row{compact(at("t", 2)), is(api.ErrTopicsNone)},
		row{compact(at("u", 0)), is(api.ErrTopicsNone)},
		// In the open segment keys may stand twice.
		row{produce(part, 0, 0, 0, keyed("k", "0"), keyed("k", "1"), keyed("", "2")), api.Reply{}},
		row{compact(part), api.Reply{}},
		row{produce(part, 0, 0, 0, keyed("l", "3"), value("4")), api.Reply{Offset: 3}},
		row{compact(part), api.Reply{N: 1}},
		row{compact(part), api.Reply{}},
		row{produce(part, 0, 0, 0, value("5")), api.Reply{Offset: 5}},
		row{produce(part, 0, 0, 0, tomb("l"), keyed("", "7")), api.Reply{Offset: 6}},
		// Another partition's keys are its own.
		row{produce(at("t", 1), 0, 0, 0, keyed("k", "0")), api.Reply{}},
		row{compact(part), api.Reply{N: 2}},
		row{fetch(part, 0, 64), api.Reply{Offset: 8, Found: slices.Concat(found(1, keyed("k", "1")), found(4, value("4"), value("5"), tomb("l"), keyed("", "7")))}},
		row{fetch(at("t", 1), 0, 64), api.Reply{Offset: 1, Found: found(0, keyed("k", "0"))}},
		// A tomb goes like others.
		row{produce(part, 0, 0, 0, value("8")), api.Reply{Offset: 8}},
		row{produce(part, 0, 0, 0, keyed("l", "9")), api.Reply{Offset: 9}},
		row{compact(part), api.Reply{N: 1}},
		row{compact(at("t", 1)), api.Reply{}},
	)
}

func TestJoin(t *testing.T) {
	b, p := mustNew(t, 4, tick(7))
	run(t, b, p,
		// A new group whose Join has an error is none.
		row{join("g", "m", 0, "t"), is(api.ErrArg)},
		row{beat("g", "m", 0), is(api.ErrGroupNone)},
		row{join("g", "m", 5, "t"), api.Reply{Gen: 1}},
		row{join("g", "n", 5, "s", "t"), api.Reply{Gen: 2}},
		row{join("g", "m", most, "s"), api.Reply{Gen: 3}},
		row{join("g", "m", 0, "s"), is(api.ErrArg)},
		row{joinRobin("g", "o", 5, "t"), is(api.ErrGroupMode)},
		row{joinRobin("g", "o", 0, "t"), is(api.ErrArg)},
		row{joinRobin("g", "m", 5, "t"), is(api.ErrGroupMode)},
		row{joinRobin("h", "o", 5, "t"), api.Reply{Gen: 1}},
		row{join("h", "p", 5, "t"), is(api.ErrGroupMode)},
		row{joinRobin("h", "p", 5, "t"), api.Reply{Gen: 2}},
		row{tick(2), api.Reply{Offset: 9}},
		row{join("g", "n", 1, "t"), api.Reply{Gen: 4}},
	)
	want := []api.Seat{{M: api.Member{Name: "m", Topics: []string{"s"}}, Timeout: most, Seen: 7}, {M: api.Member{Name: "n", Topics: []string{"t"}}, Timeout: 1, Seen: 9}}
	if g := b.State().Groups[0]; g.Gen != 4 || g.Robin || !slices.EqualFunc(g.Seats, want, sameSeat) {
		t.Errorf("%+v", g)
	}
	// Nobody is in any more: another way is fine.
	run(t, b, p,
		row{leave("h", "o", 2), api.Reply{}},
		row{leave("h", "p", 3), api.Reply{}},
		row{join("h", "o", 5, "t"), api.Reply{Gen: 5}},
	)
}

func sameSeat(a, b api.Seat) bool {
	return a.M.Name == b.M.Name && slices.Equal(a.M.Topics, b.M.Topics) && a.Timeout == b.Timeout && a.Seen == b.Seen
}

func TestJoinOfManyGroups(t *testing.T) {
	b, p := mustNew(t, 4)
	for i := range 7 {
		run(t, b, p, row{join("g"+strconv.Itoa(i), "m", 5, "t"), api.Reply{Gen: 1}})
	}
	run(t, b, p,
		row{join("g7", "m", 0, "t"), is(api.ErrArg)},
		// The eighth, and the ninth.
		row{join("g7", "m", 5, "t"), api.Reply{Gen: 1}},
		row{join("g8", "m", 5, "t"), is(api.ErrBig)},
		row{joinRobin("g8", "m", 5, "t"), is(api.ErrBig)},
		row{join("g8", "m", 0, "t"), is(api.ErrBig)},
		row{beat("g8", "m", 1), is(api.ErrGroupNone)},
		row{join("g7", "m", 0, "t"), is(api.ErrArg)},
		row{join("g3", "n", 5, "t"), api.Reply{Gen: 2}},
		// A group without members is one.
		row{leave("g5", "m", 1), api.Reply{}},
		row{join("g8", "m", 5, "t"), is(api.ErrBig)},
		row{tick(9), api.Reply{Offset: 9, N: 8}},
		row{join("g8", "m", 5, "t"), is(api.ErrBig)},
		row{join("g5", "m", 5, "t"), api.Reply{Gen: 3}},
	)
}

func TestJoinOfManyMembers(t *testing.T) {
	b, p := mustNew(t, 4)
	for i := range 8 {
		run(t, b, p, row{join("g", "m"+strconv.Itoa(i), 5, "t"), api.Reply{Gen: i + 1}})
	}
	run(t, b, p,
		row{join("g", "m8", 5, "t"), is(api.ErrBig)},
		row{joinRobin("g", "m8", 5, "t"), is(api.ErrGroupMode)},
		row{join("g", "m8", 0, "t"), is(api.ErrArg)},
		row{join("g", "m7", 6, "u"), api.Reply{Gen: 9}},
		row{join("h", "m8", 5, "t"), api.Reply{Gen: 1}},
	)
	b, p = mustLoad(t, api.State{Room: 1, Groups: []api.Grouped{{Name: "g", Gen: most}, {Name: "h", Gen: most - 1}}})
	run(t, b, p,
		row{join("g", "m", 5, "t"), is(api.ErrBig)},
		row{join("h", "m", 5, "t"), api.Reply{Gen: most}},
		row{join("h", "m", 5, "t"), is(api.ErrBig)},
		// Behind the greatest generation there is none.
		row{leave("h", "m", most), api.Reply{}},
		row{leave("h", "m", most), is(api.ErrGroupNone)},
	)
}

// team is a broker with a group of two members, in generation 2, and three partitions; one more group has nobody.
func team(t *testing.T) (*Broker, *plain) {
	t.Helper()
	return mustNew(t, 4, topic("t", 3), join("g", "m", 5, "t"), join("g", "n", 9, "t", "u"), join("h", "m", 5, "t"), leave("h", "m", 1))
}

// Beat, Leave, Assigned and Commit ask alike who it is.
func TestWhoIsNoMember(t *testing.T) {
	for name, ask := range map[string]func(group, member string, gen int) api.Op{
		"Beat": beat, "Leave": leave, "Assigned": assigned,
		"Commit":           func(group, member string, gen int) api.Op { return commit(group, member, gen, at("t", 0), 0) },
		"Commit of none":   func(group, member string, gen int) api.Op { return commit(group, member, gen, at("v", 0), 0) },
		"Commit of others": func(group, member string, gen int) api.Op { return commit(group, member, gen, at("t", 2), 9) },
	} {
		b, p := team(t)
		run(t, b, p,
			row{ask("i", "m", 2), is(api.ErrGroupNone)},
			row{ask("g0", "m", 2), is(api.ErrGroupNone)},
			row{ask("g", "o", 2), is(api.ErrGroupNone)},
			row{ask("g", "o", 1), is(api.ErrGroupNone)},
			row{ask("h", "m", 2), is(api.ErrGroupNone)},
			row{ask("h", "m", 1), is(api.ErrGroupNone)},
			row{ask("g", "m", 1), is(api.ErrGroupGen)},
			row{ask("g", "m", 3), is(api.ErrGroupGen)},
			row{ask("g", "m", 0), is(api.ErrGroupGen)},
			row{ask("g", "m", most), is(api.ErrGroupGen)},
		)
		if t.Failed() {
			t.Fatal(name)
		}
	}
}

func TestBeat(t *testing.T) {
	b, p := team(t)
	run(t, b, p,
		row{tick(4), api.Reply{Offset: 4}},
		row{beat("g", "m", 2), api.Reply{}},
		row{tick(4), api.Reply{Offset: 8}},
		row{beat("g", "m", 2), api.Reply{}},
		// n was heard at 0.
		row{tick(1), api.Reply{Offset: 9, N: 1}},
		row{beat("g", "n", 3), is(api.ErrGroupNone)},
		row{beat("g", "m", 2), is(api.ErrGroupGen)},
		row{tick(3), api.Reply{Offset: 12}},
		row{tick(1), api.Reply{Offset: 13, N: 1}},
	)
	// Who was heard later than it is is not heard earlier.
	b, p = mustLoad(t, api.State{Room: 1, Now: 3, Groups: []api.Grouped{{Name: "g", Gen: 1, Seats: []api.Seat{{M: api.Member{Name: "m", Topics: []string{"t"}}, Timeout: 2, Seen: 9}}}}})
	run(t, b, p,
		row{beat("g", "m", 1), api.Reply{}},
		row{tick(7), api.Reply{Offset: 10}},
		row{tick(1), api.Reply{Offset: 11, N: 1}},
	)
}

func TestLeave(t *testing.T) {
	b, p := team(t)
	run(t, b, p,
		row{leave("g", "n", 2), api.Reply{}},
		row{assigned("g", "m", 2), is(api.ErrGroupGen)},
		row{assigned("g", "m", 3), api.Reply{Parts: []api.Part{at("t", 0), at("t", 1), at("t", 2)}}},
		row{leave("g", "n", 3), is(api.ErrGroupNone)},
		row{leave("g", "m", 3), api.Reply{}},
		row{leave("g", "m", 4), is(api.ErrGroupNone)},
		row{join("g", "n", 9, "t"), api.Reply{Gen: 5}},
	)
}

func TestAssigned(t *testing.T) {
	b, p := team(t)
	run(t, b, p,
		row{assigned("g", "m", 2), api.Reply{Parts: []api.Part{at("t", 0), at("t", 1)}}},
		row{assigned("g", "n", 2), api.Reply{Parts: []api.Part{at("t", 2)}}},
		// A topic that comes is shared out in the same generation.
		row{topic("u", 2), api.Reply{}},
		row{topic("s", 2), api.Reply{}},
		row{assigned("g", "m", 2), api.Reply{Parts: []api.Part{at("t", 0), at("t", 1)}}},
		row{assigned("g", "n", 2), api.Reply{Parts: []api.Part{at("t", 2), at("u", 0), at("u", 1)}}},
		// The other way.
		row{joinRobin("h", "n", 9, "t", "u"), api.Reply{Gen: 3}},
		row{joinRobin("h", "m", 9, "s", "t"), api.Reply{Gen: 4}},
		row{assigned("h", "m", 4), api.Reply{Parts: []api.Part{at("s", 0), at("s", 1), at("t", 1)}}},
		row{assigned("h", "n", 4), api.Reply{Parts: []api.Part{at("t", 0), at("t", 2), at("u", 0), at("u", 1)}}},
		// Of topics that are none there is nothing.
		row{join("i", "m", 9, "v"), api.Reply{Gen: 1}},
		row{assigned("i", "m", 1), api.Reply{}},
	)
	// All partitions of all topics.
	b, p = mustNew(t, 4)
	names := []string{"a", "b", "c", "d", "e", "f", "g", "h"}
	var all []api.Part
	for _, name := range names {
		must(t, b, p, topic(name, 8))
		for i := range 8 {
			all = append(all, at(name, i))
		}
	}
	run(t, b, p,
		row{join("g", "m", 9, names...), api.Reply{Gen: 1}},
		row{assigned("g", "m", 1), api.Reply{Parts: all}},
	)
}

func TestCommit(t *testing.T) {
	b, p := team(t)
	must(t, b, p, produce(at("t", 0), 0, 0, 0, values(3)...), produce(at("t", 1), 0, 0, 0, values(1)...), topic("v", 1))
	run(t, b, p,
		// Another member's, nobody's, and of a partition that is none.
		row{commit("g", "n", 2, at("t", 0), 1), is(api.ErrBrokerOther)},
		row{commit("g", "m", 2, at("t", 2), 0), is(api.ErrBrokerOther)},
		row{commit("g", "m", 2, at("v", 0), 0), is(api.ErrBrokerOther)},
		row{commit("g", "m", 2, at("t", 3), 0), is(api.ErrBrokerOther)},
		row{commit("g", "m", 2, at("u", 0), 0), is(api.ErrBrokerOther)},
		row{commit("g", "m", 2, at("t", most), most), is(api.ErrBrokerOther)},
		// At the log's end, and above it.
		row{commit("g", "m", 2, at("t", 0), 4), is(api.ErrLogAbove)},
		row{commit("g", "m", 2, at("t", 0), most), is(api.ErrLogAbove)},
		row{commit("g", "m", 2, at("t", 1), 2), is(api.ErrLogAbove)},
		row{commit("g", "n", 2, at("t", 2), 1), is(api.ErrLogAbove)},
		row{committed("g", at("t", 0)), api.Reply{}},
		row{commit("g", "m", 2, at("t", 0), 1), api.Reply{}},
		row{commit("g", "m", 2, at("t", 0), 3), api.Reply{}},
		row{commit("g", "m", 2, at("t", 1), 1), api.Reply{}},
		row{commit("g", "n", 2, at("t", 2), 0), api.Reply{}},
		// Below the mark, at it, and where both errors fit.
		row{commit("g", "m", 2, at("t", 0), 2), is(api.ErrOffsetsBack)},
		row{commit("g", "m", 2, at("t", 0), 0), is(api.ErrOffsetsBack)},
		row{commit("g", "m", 2, at("t", 0), 3), api.Reply{}},
		row{commit("g", "n", 2, at("t", 0), 0), is(api.ErrBrokerOther)},
		row{commit("g", "n", 2, at("t", 0), 4), is(api.ErrBrokerOther)},
		row{commit("g", "m", 1, at("t", 0), 4), is(api.ErrGroupGen)},
		row{committed("g", at("t", 0)), api.Reply{Offset: 3, N: 1}},
		row{committed("g", at("t", 1)), api.Reply{Offset: 1, N: 1}},
		row{committed("g", at("t", 2)), api.Reply{N: 1}},
		row{produce(at("t", 0), 0, 0, 0, value("v")), api.Reply{Offset: 3}},
		row{commit("g", "m", 2, at("t", 0), 4), api.Reply{}},
	)
	// Who has the partition then goes on where the group was.
	run(t, b, p,
		row{leave("g", "m", 2), api.Reply{}},
		row{commit("g", "m", 3, at("t", 0), 4), is(api.ErrGroupNone)},
		row{commit("g", "n", 3, at("t", 0), 3), is(api.ErrOffsetsBack)},
		row{commit("g", "n", 3, at("t", 0), 4), api.Reply{}},
	)
	// A mark above the log's end, that was told, stays where it is.
	b, p = mustLoad(t, api.State{
		Room: 1, Topics: []api.Topic{{Name: "t", N: 1}}, Logs: []api.Logged{{Part: at("t", 0), Segs: []api.Seg{{Base: 2, Next: 5}}}},
		Groups: []api.Grouped{{Name: "g", Gen: 1, Seats: []api.Seat{{M: api.Member{Name: "m", Topics: []string{"t"}}, Timeout: 2}}}}, Marks: []api.Mark{{Group: "g", Part: at("t", 0), Offset: 7}},
	})
	run(t, b, p,
		row{commit("g", "m", 1, at("t", 0), 6), is(api.ErrLogAbove)},
		row{commit("g", "m", 1, at("t", 0), 8), is(api.ErrLogAbove)},
		row{commit("g", "m", 1, at("t", 0), 5), is(api.ErrOffsetsBack)},
		row{retain(at("t", 0), most), api.Reply{Offset: 2}},
		row{committed("g", at("t", 0)), api.Reply{Offset: 7, N: 1}},
	)
}

func TestCommitted(t *testing.T) {
	b, p := busy(t)
	run(t, b, p,
		row{committed("g", at("t", 0)), api.Reply{Offset: 3, N: 1}},
		row{committed("g", at("a", 0)), api.Reply{Offset: 9, N: 1}},
		// At 0, and raised.
		row{committed("h", at("b-2", 0)), api.Reply{N: 1}},
		row{committed("h", at("a", 0)), api.Reply{Offset: 3, N: 1}},
		// There is none: of a group that is there, and of one that isn't.
		row{committed("g", at("t", 1)), api.Reply{}},
		row{committed("h", at("t", 0)), api.Reply{}},
		row{committed("e", at("t", 0)), api.Reply{}},
		row{committed("no-such", at("t", 0)), api.Reply{}},
		// Of a partition that is none.
		row{committed("g", at("t", 3)), is(api.ErrTopicsNone)},
		row{committed("g", at("no-such", 0)), is(api.ErrTopicsNone)},
		row{committed("no-such", at("a", 1)), is(api.ErrTopicsNone)},
	)
}

func TestTick(t *testing.T) {
	b, p := mustNew(t, 4,
		join("g", "a", 5, "t"), join("g", "b", 6, "t"), join("g", "c", 5, "t"), join("g", "d", most, "t"),
		joinRobin("f", "a", 5, "t"), join("h", "a", 7, "t"), join("i", "a", 5, "t"), leave("i", "a", 1))
	run(t, b, p,
		row{tick(0), api.Reply{}},
		row{tick(4), api.Reply{Offset: 4}},
		row{beat("g", "b", 4), api.Reply{}},
		// Of two groups together; each has one generation more, however many went.
		row{tick(1), api.Reply{Offset: 5, N: 3}},
		row{beat("g", "b", 5), api.Reply{}},
		row{beat("f", "a", 1), is(api.ErrGroupNone)},
		row{tick(0), api.Reply{Offset: 5}},
		row{tick(4), api.Reply{Offset: 9, N: 1}},
		row{tick(1), api.Reply{Offset: 10}},
		row{tick(1), api.Reply{Offset: 11, N: 1}},
		row{join("g", "e", most, "t"), api.Reply{Gen: 7}},
		// Up to 2^40, and above it.
		row{tick(most - 10), is(api.ErrBig)},
		row{tick(most), is(api.ErrBig)},
		row{tick(most - 12), api.Reply{Offset: most - 1}},
		row{tick(2), is(api.ErrBig)},
		row{beat("g", "e", 7), api.Reply{}},
		row{tick(1), api.Reply{Offset: most, N: 1}},
		row{tick(1), is(api.ErrBig)},
		row{tick(most), is(api.ErrBig)},
		row{tick(0), api.Reply{Offset: most}},
		row{beat("g", "e", 8), api.Reply{}},
		row{join("g", "f", 1, "t"), api.Reply{Gen: 9}},
	)
	b, p = mustNew(t, 4, join("g", "a", most, "t"), join("g", "b", most-1, "t"))
	run(t, b, p,
		row{tick(most), api.Reply{Offset: most, N: 2}},
		row{tick(0), api.Reply{Offset: most}},
	)
}

// A time that would be too late lets nobody out.
func TestTickTooFar(t *testing.T) {
	b, p := mustNew(t, 4, tick(most-3), join("g", "m", 2, "t"))
	run(t, b, p,
		row{tick(4), is(api.ErrBig)},
		row{beat("g", "m", 1), api.Reply{}},
		row{tick(1), api.Reply{Offset: most - 2}},
		row{tick(1), api.Reply{Offset: most - 1, N: 1}},
	)
}

// R1

// Whatever a command has, it is answered, and by the right answer.
func TestAnythingIsAnswered(t *testing.T) {
	c := chance(1)
	b, p := busy(t)
	names := []string{"", "t", "a", "g", "h", "m", "b-2", "new", "G", "\xff", strings.Repeat("g", 17)}
	lists := [][]string{nil, {}, {"t"}, {"a", "t"}, {"t", "a"}, {"t", "t"}, {"T"}, make([]string, 9)}
	records := [][]api.Record{nil, {}, values(1), values(4), values(5), values(17), {tomb("k")}, {{Tomb: true}}}
	done := map[int]int{}
	for range 60000 {
		o := api.Op{Kind: c.below(15) - 1}
		full := func(name string) string {
			if c.below(3) == 0 {
				return names[c.below(len(names))]
			}
			return name
		}
		some := func(n int) int {
			if c.below(3) == 0 {
				return numbers()[c.below(len(numbers()))]
			}
			return n
		}
		// Most of it is what the kind has, so that many come through.
		if o.Kind >= 0 && o.Kind < api.OpKinds {
			o = right()[o.Kind]
		}
		switch o.Kind {
		case api.OpJoin:
			o.Group, o.Member, o.N, o.Topics, o.Robin = full(o.Group), full(o.Member), some(o.N), lists[c.below(len(lists))], c.below(2) == 0
		case api.OpBeat, api.OpLeave, api.OpAssigned:
			o.Group, o.Member, o.Gen = full(o.Group), full(o.Member), c.below(9)
		case api.OpCommit:
			o.Group, o.Member, o.Gen, o.Part, o.Offset = full(o.Group), full(o.Member), c.below(9), at(full("t"), some(0)), some(c.below(9))
		case api.OpCommitted:
			o.Group, o.Part = full(o.Group), at(full("t"), some(0))
		case api.OpProduce:
			o.Part, o.Batch = at(full("t"), some(0)), api.Batch{Producer: c.below(4), Epoch: c.below(3), Seq: some(c.below(9)), Records: records[c.below(len(records))]}
		case api.OpFetch, api.OpRetain, api.OpCompact:
			o.Part = at(full("t"), some(0))
			if o.Kind != api.OpCompact {
				o.Offset = some(o.Offset)
			}
		case api.OpTick:
			o.N = c.below(3)
		case api.OpProducer:
			o.N = some(0)
		default:
			o.Part.Topic, o.N = full(o.Part.Topic), some(o.N)
		}
		got, want := b.Do(o), p.do(o)
		if !request.Alike(got, want) {
			t.Fatalf("Do(%+v): %+v, want %+v", o, got, want)
		}
		if got.E == api.OK {
			done[o.Kind]++
		}
		if c.below(500) == 0 {
			tells(t, b, p)
			b, p = busy(t)
		}
	}
	for kind := range api.OpKinds {
		if done[kind] == 0 {
			t.Errorf("none of kind %d was done", kind)
		}
	}
}

// chance is a row of numbers, always the same one, that look like chance.
type chance uint64

func (c *chance) below(n int) int {
	*c = *c*6364136223846793005 + 1442695040888963407
	return int(uint64(*c>>33) % uint64(n))
}

// R4

// spoil fills a list, and the room behind it.
func spoil[T any](l []T, by T) {
	l = l[:cap(l)]
	for i := range l {
		l[i] = by
	}
}

// roomy is another list of the same, with room behind it, and the whole of it.
func roomy[T any](l []T, behind T) ([]T, []T) {
	whole := append(slices.Clone(l), behind, behind, behind)
	return whole[:len(l)], whole
}

// The lists that a command has stay as they were, room and all, and may be spoilt afterwards.
func TestCommandsAreNotKept(t *testing.T) {
	ops := append(story(), produce(at("t", 0), 1, 0, 9, value("a gap")), produce(at("t", 0), 1, 0, 5, values(5)...), produce(at("t", 0), 1, 0, 2, values(3)...), join("g", "m", 0, "a"), join("g", "m", 5, "a", "t"), join("g", "m", 5, "t", "a"))
	b, p := mustNew(t, 4)
	for i, o := range ops {
		records, allRecords := roomy(o.Batch.Records, value("behind"))
		topics, allTopics := roomy(o.Topics, "behind")
		wasRecords, wasTopics := slices.Clone(allRecords), slices.Clone(allTopics)
		mine := o
		mine.Batch.Records, mine.Topics = records, topics
		got, want := b.Do(mine), p.do(o)
		if !request.Alike(got, want) {
			t.Fatalf("%d: %+v, want %+v", i, got, want)
		}
		if !slices.Equal(allRecords, wasRecords) || !slices.Equal(allTopics, wasTopics) {
			t.Fatalf("%d: Do made it into %v, %v", i, allRecords, allTopics)
		}
		spoil(allRecords, value("spoilt"))
		spoil(allTopics, "spoilt")
		tells(t, b, p)
	}
}

// What a command comes to is its owner's.
func TestRepliesAreTheirOwners(t *testing.T) {
	b, p := busy(t)
	for _, o := range []api.Op{fetch(at("t", 0), 0, 64), fetch(at("t", 0), 4, 1), fetch(at("a", 0), 9, 5), assigned("g", "m", 2), assigned("h", "x", 2)} {
		r, other := b.Do(o), b.Do(o)
		spoil(append(r.Found, api.Found{Offset: 99}), api.Found{Offset: 98})
		spoil(append(r.Parts, at("more", 9)), at("spoilt", 8))
		spoil(r.Found, api.Found{Offset: 97})
		spoil(r.Parts, at("spoilt", 7))
		if !request.Alike(other, p.do(o)) {
			t.Fatalf("the other one is %+v", other)
		}
		tells(t, b, p)
		does(t, b, p, o)
	}
	// What is done then does not change what was told.
	for _, then := range []api.Op{produce(at("t", 0), 1, 0, 5, values(4)...), compact(at("a", 0)), retain(at("t", 0), most), join("g", "o", 5, "a"), leave("g", "n", 2), topic("c", 8)} {
		b, p := busy(t)
		asks := []api.Op{fetch(at("t", 0), 0, 64), fetch(at("a", 0), 3, 64), assigned("g", "m", 2), assigned("h", "y", 2)}
		var got, want []api.Reply
		for _, o := range asks {
			got, want = append(got, b.Do(o)), append(want, p.do(o))
		}
		must(t, b, p, then)
		for i := range asks {
			if !request.Alike(got[i], want[i]) {
				t.Fatalf("Do(%+v), and then %+v: %+v, want %+v", asks[i], then, got[i], want[i])
			}
		}
	}
}

// R5

// The same commands come to the same, each time.
func TestAnswersHangOnNothingElse(t *testing.T) {
	var groups []string
	for i := range 8 {
		groups = append(groups, "g"+strconv.Itoa(i))
	}
	for range 10 {
		b, p := mustNew(t, 4, topic("t", 8), topic("s", 8))
		for i := range groups {
			must(t, b, p, join(groups[(i*5)%8], "m", 3, "t"), join(groups[(i*5)%8], "n", 4+i, "s", "t"))
		}
		run(t, b, p,
			row{tick(3), api.Reply{Offset: 3, N: 8}},
			row{tick(3), api.Reply{Offset: 6, N: 3}},
			row{tick(most - 6), api.Reply{Offset: most, N: 5}},
		)
		for i, g := range b.State().Groups {
			if g.Name != groups[i] || g.Gen != 4 || len(g.Seats) != 0 {
				t.Errorf("%d: %+v", i, g)
			}
		}
	}
}

// heldBytes is how much memory is in use.
func heldBytes() int64 {
	runtime.GC()
	var m runtime.MemStats
	runtime.ReadMemStats(&m)
	return int64(m.HeapAlloc)
}

// Texts that are pieces of great ones are handed in, and lists with room: they are not kept.
func TestGreatThingsAreNotKept(t *testing.T) {
	const great, n = 1 << 20, 20
	piece := func(i int) string { return strings.Repeat("x", great)[i : i+9] }
	done := func(i int, ops ...api.Op) *Broker {
		b, _ := New(4)
		part := at(piece(i), 0)
		for _, o := range append([]api.Op{
			topic(piece(i), 1), producer(0), produce(part, 1, 0, 0, keyed(piece(i), piece(i))), produce(part, 1, 0, 1, value(piece(i))),
			join(piece(i), piece(i), 9, piece(i)), commit(piece(i), piece(i), 1, part, 1),
		}, ops...) {
			if r := b.Do(o); r.E != api.OK {
				t.Errorf("Do(%+v): %d", o, r.E)
			}
		}
		return b
	}
	for name, one := range map[string]func(i int) any{
		"done": func(i int) any { return done(i) },
		"again": func(i int) any {
			part := at(piece(i), 0)
			return done(i, produce(part, 1, 0, 1, value(piece(i))), join(piece(i), piece(i), 9, piece(i)), commit(piece(i), piece(i), 2, part, 2), beat(piece(i), piece(i), 2), retain(part, 1), compact(part))
		},
		"refused": func(i int) any {
			b, _ := New(4)
			part := at(piece(i), 0)
			for _, o := range []api.Op{produce(part, 0, 0, 0, value(piece(i))), join(piece(i), piece(i), 0, piece(i)), commit(piece(i), piece(i), 1, part, 1), beat(piece(i), piece(i), 1), fetch(part, 0, 1), committed(piece(i), part)} {
				if r := b.Do(o); r.E == api.OK {
					t.Errorf("Do(%+v): %+v", o, r)
				}
			}
			return b
		},
		"asked": func(i int) any {
			b := done(i)
			part := at(piece(i), 0)
			return []any{b.Do(fetch(part, 0, 9)), b.Do(assigned(piece(i), piece(i), 1)), b.Do(committed(piece(i), part))}
		},
		"State": func(i int) any { return done(i).State() },
		"Load":  func(i int) any { b, _ := Load(done(i).State()); return b },
		"Load of pieces": func(i int) any {
			part := at(piece(i), 0)
			b, e := Load(api.State{
				Room: 4, Topics: []api.Topic{{Name: piece(i), N: 1}},
				Logs:   []api.Logged{{Part: part, Segs: []api.Seg{{Next: 1, L: []api.Found{{R: keyed(piece(i), piece(i))}}}}}},
				Epochs: []int{0}, Makers: []api.Maker{{Id: 1, Part: at(piece(i), 0), Last: []api.Did{{N: 1}}}},
				Groups: []api.Grouped{{Name: piece(i), Seats: []api.Seat{{M: api.Member{Name: piece(i), Topics: []string{piece(i)}}, Timeout: 1}}}},
				Marks:  []api.Mark{{Group: piece(i), Part: at(piece(i), 0)}},
			})
			if e != api.OK {
				t.Error(e)
			}
			return b
		},
		"Copy": func(i int) any { return done(i).Copy() },
	} {
		before := heldBytes()
		var kept []any
		for i := range n {
			kept = append(kept, one(i))
		}
		if more := heldBytes() - before; more > great {
			t.Errorf("%s: %d bytes are kept", name, more)
		}
		runtime.KeepAlive(kept)
	}
}

// What went is not kept: records, epochs, members.
func TestWhatWentIsNotKept(t *testing.T) {
	b, _ := mustNew(t, 4, topic("t", 1), producer(0))
	part := at("t", 0)
	before := heldBytes()
	for i := range 20000 {
		for _, o := range []api.Op{
			produce(part, 1, i, 0, value(strings.Repeat("v", 100))), produce(part, 1, i, 1, keyed("k", strconv.Itoa(i))), retain(part, 2*i),
			join("g", "m"+strconv.Itoa(i), 1, "t"), commit("g", "m"+strconv.Itoa(i), 2*i+1, part, 2*i), tick(1), producer(1),
		} {
			if r := b.Do(o); r.E != api.OK {
				t.Fatalf("%d: Do(%+v): %d", i, o, r.E)
			}
		}
	}
	if more := heldBytes() - before; more > 200000 {
		t.Errorf("%d bytes are kept of many things that went", more)
	}
	runtime.KeepAlive(b)
}
