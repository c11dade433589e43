package assign

import (
	"cmp"
	"math"
	"runtime"
	"slices"
	"strconv"
	"strings"
	"testing"

	"stagecoach/api"
	"stagecoach/topics"
)

// What the chapter's words say, each answer made by going over all that is there.

// below holds names against each other byte by byte.
func below(a, b string) bool {
	for i := 0; i < len(a) && i < len(b); i++ {
		if a[i] != b[i] {
			return a[i] < b[i]
		}
	}
	return len(a) < len(b)
}

// isName is of 1 to 16 bytes, each a to z, 0 to 9, or -.
func isName(s string) bool {
	return 1 <= len(s) && len(s) <= 16 && strings.Trim(s, "abcdefghijklmnopqrstuvwxyz0123456789-") == ""
}

func plainLoad(l []api.Topic) api.Errno {
	if len(l) > 8 {
		return 2
	}
	for i, t := range l {
		if !isName(t.Name) || t.N < 1 || t.N > 8 || i > 0 && !below(l[i-1].Name, t.Name) {
			return 1
		}
	}
	return 0
}

func plainCheck(l []api.Topic, m []api.Member) api.Errno {
	if e := plainLoad(l); e != 0 {
		return e
	}
	if len(m) > 8 {
		return 2
	}
	for i := range m {
		if i > 0 && !below(m[i-1].Name, m[i].Name) {
			return 100
		}
	}
	return 0
}

func plainWants(m api.Member, topic string) bool {
	n := 0
	for _, s := range m.Topics {
		if s == topic {
			n++
		}
	}
	return n > 0
}

// plainRange cuts each topic's stretches one behind the other.
func plainRange(l []api.Topic, m []api.Member) [][]api.Part {
	a := make([][]api.Part, len(m))
	for _, t := range l {
		k := 0
		for _, x := range m {
			if plainWants(x, t.Name) {
				k++
			}
		}
		next, nth := 0, 0
		for i, x := range m {
			if !plainWants(x, t.Name) {
				continue
			}
			size := t.N / k
			if nth < t.N%k {
				size++
			}
			for range size {
				a[i] = append(a[i], at(t.Name, next))
				next++
			}
			nth++
		}
	}
	return a
}

// plainRobin goes from member to member, one step at a time.
func plainRobin(l []api.Topic, m []api.Member) [][]api.Part {
	a := make([][]api.Part, len(m))
	place := 0
	for _, t := range l {
		for n := range t.N {
			for step := range len(m) {
				i := (place + step) % len(m)
				if plainWants(m[i], t.Name) {
					a[i] = append(a[i], at(t.Name, n))
					place = (i + 1) % len(m)
					break
				}
			}
		}
	}
	return a
}

func at(topic string, n int) api.Part {
	return api.Part{Topic: topic, N: n}
}

func topic(name string, n int) api.Topic {
	return api.Topic{Name: name, N: n}
}

func member(name string, topics ...string) api.Member {
	return api.Member{Name: name, Topics: topics}
}

// all are so many members that want the same.
func all(k int, wants ...string) []api.Member {
	var m []api.Member
	for i := range k {
		m = append(m, member("m"+strconv.Itoa(i), wants...))
	}
	return m
}

// named are members that want nothing.
func named(names ...string) []api.Member {
	var m []api.Member
	for _, s := range names {
		m = append(m, member(s))
	}
	return m
}

// of are partitions of a topic.
func of(topic string, numbers ...int) []api.Part {
	var l []api.Part
	for _, n := range numbers {
		l = append(l, at(topic, n))
	}
	return l
}

func same(a, b [][]api.Part) bool {
	return slices.EqualFunc(a, b, slices.Equal)
}

// copied is a list of lists that shares nothing with another one.
func copied(a [][]api.Part) [][]api.Part {
	var b [][]api.Part
	for _, l := range a {
		b = append(b, slices.Clone(l))
	}
	return b
}

// ways are both, with the plain one of each.
var ways = []struct {
	name  string
	give  func(l []api.Topic, m []api.Member) ([][]api.Part, api.Errno)
	plain func(l []api.Topic, m []api.Member) [][]api.Part
}{{"Range", Range, plainRange}, {"Robin", Robin, plainRobin}}

// gives tells where Range and Robin differ from the plain ones.
func gives(t *testing.T, l []api.Topic, m []api.Member) {
	t.Helper()
	if e := Check(l, m); e != api.OK {
		t.Fatalf("Check(%v, %v): %d", l, m, e)
	}
	for _, w := range ways {
		// Twice, as nothing is remembered of the first time.
		for range 2 {
			got, e := w.give(l, m)
			if want := w.plain(l, m); e != api.OK || len(got) != len(m) || !same(got, want) {
				t.Fatalf("%s(%v, %v): %v, %d, want %v", w.name, l, m, got, e, want)
			}
		}
	}
}

// refuses tells where an error is not told by all three, or something beside it.
func refuses(t *testing.T, l []api.Topic, m []api.Member, want api.Errno) {
	t.Helper()
	if e := Check(l, m); e != want {
		t.Errorf("Check(%v, %v): %d, want %d", l, m, e, want)
	}
	for _, w := range ways {
		if a, e := w.give(l, m); a != nil || e != want {
			t.Errorf("%s(%v, %v): %v, %d, want %d", w.name, l, m, a, e, want)
		}
	}
}

// chance is a row of numbers, always the same one, that look like chance.
type chance uint64

func (c *chance) below(n int) int {
	*c = *c*6364136223846793005 + 1442695040888963407
	return int(uint64(*c>>33) % uint64(n))
}

// The chapter's example.

func TestExample(t *testing.T) {
	l, m := []api.Topic{topic("t", 3)}, []api.Member{member("m", "t"), member("n", "t")}
	a, e := Range(l, m)
	if e != api.OK || !same(a, [][]api.Part{of("t", 0, 1), of("t", 2)}) {
		t.Errorf("Range: %v, %d", a, e)
	}
	a, e = Robin(l, m)
	if e != api.OK || !same(a, [][]api.Part{of("t", 0, 2), of("t", 1)}) {
		t.Errorf("Robin: %v, %d", a, e)
	}
}

func TestNumbersOfApi(t *testing.T) {
	if api.OK != 0 || api.ErrArg != 1 || api.ErrBig != 2 || api.ErrAssignForm != 100 || api.MaxMembers != 8 || api.MaxTopics != 8 || api.MaxParts != 8 {
		t.Error("errors and limits are not the chapter's")
	}
}

// P10.1

// eight are as many topics as there may be, of 1 to 8 partitions.
func eight() []api.Topic {
	return []api.Topic{topic("-", 2), topic("0", 3), topic("a", 8), topic("aa", 6), topic("t", 4), topic("t10", 7), topic("t2", 1), topic("zzzzzzzzzzzzzzzz", 5)}
}

// ofEight are these, but for one.
func ofEight(i int, x api.Topic) []api.Topic {
	l := eight()
	l[i] = x
	return l
}

// lists are topics that may be, and such as may not.
func lists() [][]api.Topic {
	nine := append(eight()[:7], topic("z", 1), topic("zz", 1))
	l := [][]api.Topic{
		nil, {}, {topic("t", 1)}, {topic("t", 8)}, {topic("a", 3), topic("aa", 3)}, {topic("t10", 1), topic("t2", 1)},
		{topic("9", 1), topic("a", 1)}, {topic("-", 1), topic("0", 1)}, {topic("0123456789abcdef", 8)}, eight(), eight()[:7], eight()[1:],
		// More than eight, and whatever else.
		nine, make([]api.Topic, 9), make([]api.Topic, 100), append(eight(), topic("", 0)), append(eight(), topic("a", 1)), slices.Repeat(nine[:1], 9),
		// No names.
		{{}}, {topic("", 1)}, {topic("T", 1)}, {topic("a b", 1)}, {topic("\xff", 1)}, {topic("\u00e9", 1)}, {topic("0123456789abcdefg", 1)},
		ofEight(0, topic("", 2)), ofEight(7, topic("zzzzzzzzzzzzzzzzz", 5)), ofEight(4, topic("t_", 4)),
		// Out of order, and twice.
		{topic("b", 1), topic("a", 1)}, {topic("t2", 1), topic("t10", 1)}, {topic("aa", 1), topic("a", 1)}, {topic("a", 1), topic("9", 1)}, {topic("0", 1), topic("-", 1)},
		{topic("a", 1), topic("a", 1)}, {topic("a", 1), topic("a", 2)}, {topic("a", 1), topic("b", 1), topic("a", 1)}, {topic("a", 1), topic("c", 1), topic("b", 1)},
		ofEight(7, topic("t2", 5)), ofEight(7, topic("b", 5)), ofEight(0, topic("0", 2)), ofEight(0, topic("1", 2)),
		// Two faults at once.
		{topic("", 0)}, {topic("b", 9), topic("a", 9)}, {topic("a", 0), topic("a", 0)},
	}
	for _, n := range []int{math.MinInt, -1 << 32, -8, -1, 0, 9, 10, 256, 257, 1<<32 + 1, math.MaxInt} {
		l = append(l, []api.Topic{topic("t", n)}, ofEight(0, topic("-", n)), ofEight(4, topic("t", n)), ofEight(7, topic("zz", n)))
	}
	return l
}

// Of topics, Check tells what topics.Load tells, whoever the members are; of others' faults too, as the topics' come first.
func TestCheckOfTopics(t *testing.T) {
	told := map[api.Errno]int{}
	for _, l := range lists() {
		_, want := topics.Load(l)
		if plain := plainLoad(l); want != plain {
			t.Fatalf("Load(%v): %d, want %d", l, want, plain)
		}
		told[want]++
		for _, m := range [][]api.Member{nil, {}, all(1, "t"), all(8, "t")} {
			if want == api.OK {
				gives(t, l, m)
			} else {
				refuses(t, l, m, want)
			}
		}
		for i, m := range [][]api.Member{all(9, "t"), make([]api.Member, 9), named("b", "a"), named("a", "a")} {
			others := []api.Errno{api.ErrBig, api.ErrBig, api.ErrAssignForm, api.ErrAssignForm}[i]
			refuses(t, l, m, cmp.Or(want, others))
		}
	}
	if told[api.OK] < 10 || told[api.ErrBig] < 5 || told[api.ErrArg] < 20 {
		t.Errorf("the lists come to %v", told)
	}
}

func TestCheckOfEightMembersAndOfNine(t *testing.T) {
	l := []api.Topic{topic("a", 3), topic("t", 8)}
	for k := range 20 {
		m := all(min(k, 10), "t")
		for i := 10; i < k; i++ {
			m = append(m, member("n"+strconv.Itoa(i), "a"))
		}
		if k > 8 {
			refuses(t, l, m, api.ErrBig)
			continue
		}
		gives(t, l, m)
	}
	refuses(t, nil, all(9), api.ErrBig)
	refuses(t, l, make([]api.Member, 1000), api.ErrBig)
	gives(t, nil, all(8))
}

func TestCheckOfNames(t *testing.T) {
	long := strings.Repeat("m", 1000)
	for i, x := range []struct {
		names []string
		rise  bool
	}{
		{nil, true},
		{[]string{"m"}, true},
		// A member's name is any text here, the empty one too.
		{[]string{""}, true},
		{[]string{"M"}, true},
		{[]string{"\xff\x00"}, true},
		{[]string{long}, true},
		// They rise.
		{[]string{"a", "b"}, true},
		{[]string{"", "a"}, true},
		{[]string{"", "\x00", "\x00\x00", "\x01"}, true},
		{[]string{"a", "aa"}, true},
		{[]string{"a", "a\x00"}, true},
		{[]string{"a\xff", "b"}, true},
		{[]string{"m10", "m2"}, true},
		{[]string{"9", "a"}, true},
		{[]string{"-", "0"}, true},
		{[]string{"B", "a"}, true},
		{[]string{"Z", "a"}, true},
		{[]string{"z", "\u00e9"}, true},
		{[]string{"\x7f", "\x80"}, true},
		{[]string{"\x7f", "\xff"}, true},
		{[]string{"\uffee", "\U00010000"}, true},
		{[]string{"\u00e9", "\xff"}, true},
		{[]string{long, long + "m"}, true},
		{[]string{long + "a", long + "b"}, true},
		{[]string{"a", "b", "c", "d", "e", "f", "g", "h"}, true},
		// One stands twice.
		{[]string{"", ""}, false},
		{[]string{"a", "a"}, false},
		{[]string{"a", "a", "b"}, false},
		{[]string{"a", "b", "b"}, false},
		{[]string{"a", "b", "a"}, false},
		{[]string{long, long}, false},
		{[]string{"a", "b", "c", "d", "e", "f", "g", "g"}, false},
		{[]string{"a", "b", "c", "d", "d", "f", "g", "h"}, false},
		// Two are out of order.
		{[]string{"b", "a"}, false},
		{[]string{"a", ""}, false},
		{[]string{"aa", "a"}, false},
		{[]string{"a\x00", "a"}, false},
		{[]string{"b", "a\xff"}, false},
		{[]string{"m2", "m10"}, false},
		{[]string{"a", "9"}, false},
		{[]string{"0", "-"}, false},
		{[]string{"a", "B"}, false},
		{[]string{"a", "Z"}, false},
		{[]string{"\u00e9", "z"}, false},
		{[]string{"\x80", "\x7f"}, false},
		{[]string{"\xff", "\x7f"}, false},
		{[]string{"\U00010000", "\uffee"}, false},
		{[]string{long + "m", long}, false},
		{[]string{"b", "a", "c"}, false},
		{[]string{"a", "c", "b"}, false},
		{[]string{"b", "c", "a"}, false},
		{[]string{"b", "a", "c", "d", "e", "f", "g", "h"}, false},
		{[]string{"a", "b", "c", "d", "e", "f", "h", "g"}, false},
		{[]string{"h", "g", "f", "e", "d", "c", "b", "a"}, false},
	} {
		for _, l := range [][]api.Topic{nil, {topic("t", 3)}, eight()} {
			m := named(x.names...)
			if x.rise {
				gives(t, l, m)
			} else {
				refuses(t, l, m, api.ErrAssignForm)
			}
			// What they want changes nothing of that.
			for k := range m {
				m[k].Topics = []string{"t", x.names[k], "no-such"}
			}
			if e := Check(l, m); (e == api.OK) != x.rise {
				t.Errorf("%d: Check(%v, %v): %d", i, l, m, e)
			}
		}
	}
}

// Of two faults at once the topics' is told first, then that there are too many members, then that their names do not rise.
func TestCheckOfTwoFaults(t *testing.T) {
	good, bad, more := []api.Topic{topic("t", 3)}, []api.Topic{topic("t", 0)}, append(eight(), topic("zzzzzzzzzzzzzzz", 1))
	for i, x := range []struct {
		l []api.Topic
		m []api.Member
		e api.Errno
	}{
		{bad, all(9), api.ErrArg},
		{bad, named("b", "a"), api.ErrArg},
		{bad, make([]api.Member, 9), api.ErrArg},
		{more, all(9), api.ErrBig},
		{more, named("b", "a"), api.ErrBig},
		{make([]api.Topic, 9), make([]api.Member, 9), api.ErrBig},
		{good, make([]api.Member, 9), api.ErrBig},
		{good, named("b", "a", "c", "d", "e", "f", "g", "h", "i"), api.ErrBig},
		{good, named("a", "b", "c", "d", "e", "f", "g", "h", "h"), api.ErrBig},
		{good, named("a", "b", "c", "d", "e", "f", "g", "i", "h"), api.ErrBig},
		{good, make([]api.Member, 8), api.ErrAssignForm},
		{good, named("b", "a"), api.ErrAssignForm},
	} {
		if e := plainCheck(x.l, x.m); e != x.e {
			t.Errorf("%d: the plain one says %d", i, e)
		}
		refuses(t, x.l, x.m, x.e)
	}
}

func TestWants(t *testing.T) {
	three := []string{"a", "t", "b"}
	many := slices.Repeat([]string{"u"}, 1000)
	many[999] = "t"
	for i, x := range []struct {
		topics []string
		topic  string
		want   bool
	}{
		// The first one, one between, the last one, one that is not among them.
		{three, "a", true},
		{three, "t", true},
		{three, "b", true},
		{three, "c", false},
		{three, "", false},
		{three, "T", false},
		{three, "aa", false},
		{three, "at", false},
		{three, "t ", false},
		{three, "t\x00", false},
		{[]string{"topic"}, "topi", false},
		{[]string{"topic"}, "opic", false},
		{[]string{"topic"}, "topics", false},
		{[]string{"a,t"}, "t", false},
		{[]string{"t"}, "t", true},
		{many, "t", true},
		{many, "u", true},
		{many, "v", false},
		// None.
		{nil, "t", false},
		{nil, "", false},
		{[]string{}, "t", false},
		// A text that stands twice.
		{[]string{"t", "t"}, "t", true},
		{[]string{"t", "u", "t"}, "t", true},
		{[]string{"t", "u", "t"}, "u", true},
		{[]string{"t", "u", "t"}, "v", false},
		// Texts that are no names.
		{[]string{""}, "", true},
		{[]string{"", "t"}, "t", true},
		{[]string{"T"}, "T", true},
		{[]string{"T"}, "t", false},
		{[]string{"\xff"}, "\xff", true},
		{[]string{"\xff"}, "\xfe", false},
		{[]string{"\xff"}, "\ufffd", false},
		{[]string{"\u00e9"}, "e\u0301", false},
	} {
		// The member's own name is no topic.
		for _, name := range []string{"", "m", "v", "c"} {
			m := api.Member{Name: name, Topics: x.topics}
			if got := Wants(m, x.topic); got != x.want {
				t.Errorf("%d: Wants(%v, %q): %v", i, m, x.topic, got)
			}
		}
		if Wants(member(x.topic), x.topic) {
			t.Errorf("%d: a member wants the topic of its name", i)
		}
	}
}

// P10.2

// Of one topic, that all members want: how many of its partitions each one has. They lie one behind the other, from 0 on.
func TestRangeOfOneTopic(t *testing.T) {
	sizes := map[[2]int][]int{
		{1, 1}: {1}, {8, 1}: {8}, {5, 1}: {5},
		// n below k: the last ones have none.
		{1, 2}: {1, 0}, {1, 8}: {1, 0, 0, 0, 0, 0, 0, 0}, {2, 3}: {1, 1, 0}, {3, 8}: {1, 1, 1, 0, 0, 0, 0, 0}, {7, 8}: {1, 1, 1, 1, 1, 1, 1, 0},
		// n equal to k.
		{2, 2}: {1, 1}, {3, 3}: {1, 1, 1}, {8, 8}: {1, 1, 1, 1, 1, 1, 1, 1},
		// k divides n.
		{4, 2}: {2, 2}, {6, 2}: {3, 3}, {6, 3}: {2, 2, 2}, {8, 2}: {4, 4}, {8, 4}: {2, 2, 2, 2},
		// It does not: the ones with one more are the first ones.
		{3, 2}: {2, 1}, {5, 2}: {3, 2}, {7, 2}: {4, 3}, {4, 3}: {2, 1, 1}, {5, 3}: {2, 2, 1}, {7, 3}: {3, 2, 2}, {8, 3}: {3, 3, 2},
		{5, 4}: {2, 1, 1, 1}, {6, 4}: {2, 2, 1, 1}, {7, 4}: {2, 2, 2, 1}, {7, 5}: {2, 2, 1, 1, 1}, {8, 5}: {2, 2, 2, 1, 1}, {8, 6}: {2, 2, 1, 1, 1, 1}, {8, 7}: {2, 1, 1, 1, 1, 1, 1},
	}
	for nk, size := range sizes {
		n, k := nk[0], nk[1]
		l, m := []api.Topic{topic("t", n)}, all(k, "t")
		var want [][]api.Part
		next := 0
		for _, each := range size {
			var list []api.Part
			for range each {
				list = append(list, at("t", next))
				next++
			}
			want = append(want, list)
		}
		if next != n {
			t.Fatalf("%v: the sizes come to %d", nk, next)
		}
		if got, e := Range(l, m); e != api.OK || !same(got, want) {
			t.Errorf("%d partitions, %d members: %v, %d, want %v", n, k, got, e, want)
		}
	}
	for n := 1; n <= 8; n++ {
		for k := range 9 {
			gives(t, []api.Topic{topic("t", n)}, all(k, "t"))
		}
	}
}

func TestOfNone(t *testing.T) {
	for _, w := range ways {
		// No members: there is no list.
		for _, m := range [][]api.Member{nil, {}} {
			for _, l := range [][]api.Topic{nil, {}, {topic("t", 3)}, eight()} {
				if a, e := w.give(l, m); len(a) != 0 || e != api.OK {
					t.Errorf("%s(%v, %v): %v, %d", w.name, l, m, a, e)
				}
			}
		}
		// No topics, or none that is wanted: each one's list is empty.
		for k := 1; k <= 8; k++ {
			for _, wants := range [][]string{nil, {}, {"u"}, {"", "T", "tt", "t ", "\xff"}} {
				for _, l := range [][]api.Topic{nil, {}, {topic("t", 3)}, eight()} {
					a, e := w.give(l, all(k, wants...))
					if e != api.OK || len(a) != k || !same(a, make([][]api.Part, k)) {
						t.Errorf("%s(%v) of %d members that want %q: %v, %d", w.name, l, k, wants, a, e)
					}
				}
			}
		}
	}
}

func TestRangeAndRobin(t *testing.T) {
	ab := []api.Topic{topic("a", 5), topic("b", 2)}
	abc := []api.Topic{topic("a", 3), topic("b", 2), topic("c", 4)}
	for i, x := range []struct {
		l           []api.Topic
		m           []api.Member
		span, robin [][]api.Part
	}{
		// All want all. Robin goes on in b with whom comes behind the one that had the last one of a.
		{ab, all(2, "a", "b"), [][]api.Part{{at("a", 0), at("a", 1), at("a", 2), at("b", 0)}, {at("a", 3), at("a", 4), at("b", 1)}}, [][]api.Part{{at("a", 0), at("a", 2), at("a", 4), at("b", 1)}, {at("a", 1), at("a", 3), at("b", 0)}}},
		{ab, all(3, "a", "b"), [][]api.Part{{at("a", 0), at("a", 1), at("b", 0)}, {at("a", 2), at("a", 3), at("b", 1)}, {at("a", 4)}}, [][]api.Part{{at("a", 0), at("a", 3), at("b", 1)}, {at("a", 1), at("a", 4)}, {at("a", 2), at("b", 0)}}},
		// In which order a member names its topics, and how often, is all the same.
		{ab, all(2, "b", "a", "b", "a", "no-such"), [][]api.Part{{at("a", 0), at("a", 1), at("a", 2), at("b", 0)}, {at("a", 3), at("a", 4), at("b", 1)}}, [][]api.Part{{at("a", 0), at("a", 2), at("a", 4), at("b", 1)}, {at("a", 1), at("a", 3), at("b", 0)}}},
		// Only some want a topic: the first one, the last one, those between.
		{abc, []api.Member{member("m", "a"), member("n", "b"), member("o", "c")}, [][]api.Part{of("a", 0, 1, 2), of("b", 0, 1), of("c", 0, 1, 2, 3)}, [][]api.Part{of("a", 0, 1, 2), of("b", 0, 1), of("c", 0, 1, 2, 3)}},
		{abc, []api.Member{member("m", "c"), member("n", "b"), member("o", "a")}, [][]api.Part{of("c", 0, 1, 2, 3), of("b", 0, 1), of("a", 0, 1, 2)}, [][]api.Part{of("c", 0, 1, 2, 3), of("b", 0, 1), of("a", 0, 1, 2)}},
		{abc, []api.Member{member("m"), member("n", "a", "c"), member("o"), member("p", "c"), member("q", "b")}, [][]api.Part{nil, {at("a", 0), at("a", 1), at("a", 2), at("c", 0), at("c", 1)}, nil, of("c", 2, 3), of("b", 0, 1)}, [][]api.Part{nil, {at("a", 0), at("a", 1), at("a", 2), at("c", 0), at("c", 2)}, nil, of("c", 1, 3), of("b", 0, 1)}},
		// m has the last one of a; so the place is at n, that does not want b, and o has the first one of b.
		{[]api.Topic{topic("a", 1), topic("b", 3)}, []api.Member{member("m", "a", "b"), member("n", "c"), member("o", "b")}, [][]api.Part{{at("a", 0), at("b", 0), at("b", 1)}, nil, of("b", 2)}, [][]api.Part{{at("a", 0), at("b", 1)}, nil, of("b", 0, 2)}},
		// None wants b: the place stays at n, that has the first one of c.
		{[]api.Topic{topic("a", 1), topic("b", 8), topic("c", 2)}, all(3, "a", "c"), [][]api.Part{{at("a", 0), at("c", 0)}, of("c", 1), nil}, [][]api.Part{of("a", 0), of("c", 0), of("c", 1)}},
		// None wants a: the place stays at the first one.
		{abc, all(2, "b", "c"), [][]api.Part{{at("b", 0), at("c", 0), at("c", 1)}, {at("b", 1), at("c", 2), at("c", 3)}}, [][]api.Part{{at("b", 0), at("c", 0), at("c", 2)}, {at("b", 1), at("c", 1), at("c", 3)}}},
		// Behind the last one comes the first one, within a topic, and from one to the next.
		{[]api.Topic{topic("a", 2), topic("b", 1)}, all(2, "a", "b"), [][]api.Part{{at("a", 0), at("b", 0)}, of("a", 1)}, [][]api.Part{{at("a", 0), at("b", 0)}, of("a", 1)}},
		{[]api.Topic{topic("a", 1), topic("b", 1), topic("c", 1)}, []api.Member{member("m", "c"), member("n", "b", "c"), member("o", "a", "c")}, [][]api.Part{of("c", 0), of("b", 0), of("a", 0)}, [][]api.Part{nil, of("b", 0), {at("a", 0), at("c", 0)}}},
		{[]api.Topic{topic("a", 2), topic("b", 3)}, []api.Member{member("m", "b"), member("n", "a"), member("o", "b")}, [][]api.Part{of("b", 0, 1), of("a", 0, 1), of("b", 2)}, [][]api.Part{of("b", 1), of("a", 0, 1), of("b", 0, 2)}},
	} {
		if got, e := Range(x.l, x.m); e != api.OK || !same(got, x.span) {
			t.Errorf("%d: Range: %v, %d, want %v", i, got, e, x.span)
		}
		if got, e := Robin(x.l, x.m); e != api.OK || !same(got, x.robin) {
			t.Errorf("%d: Robin: %v, %d, want %v", i, got, e, x.robin)
		}
		gives(t, x.l, x.m)
	}
}

// P10.3

func TestRobinOfOneTopic(t *testing.T) {
	for i, x := range []struct {
		n, k int
		want [][]api.Part
	}{
		{1, 1, [][]api.Part{of("t", 0)}},
		{8, 1, [][]api.Part{of("t", 0, 1, 2, 3, 4, 5, 6, 7)}},
		{1, 3, [][]api.Part{of("t", 0), nil, nil}},
		{3, 3, [][]api.Part{of("t", 0), of("t", 1), of("t", 2)}},
		{8, 3, [][]api.Part{of("t", 0, 3, 6), of("t", 1, 4, 7), of("t", 2, 5)}},
		{8, 8, [][]api.Part{of("t", 0), of("t", 1), of("t", 2), of("t", 3), of("t", 4), of("t", 5), of("t", 6), of("t", 7)}},
		{7, 8, [][]api.Part{of("t", 0), of("t", 1), of("t", 2), of("t", 3), of("t", 4), of("t", 5), of("t", 6), nil}},
	} {
		if got, e := Robin([]api.Topic{topic("t", x.n)}, all(x.k, "t")); e != api.OK || !same(got, x.want) {
			t.Errorf("%d: %v, %d, want %v", i, got, e, x.want)
		}
	}
}

// Members that do not want the topic are passed over, wherever they stand.
func TestRobinPassesOver(t *testing.T) {
	l := []api.Topic{topic("t", 5)}
	for _, who := range [][2]int{{0, 1}, {0, 2}, {0, 3}, {1, 2}, {1, 3}, {2, 3}} {
		m := all(4, "u")
		want := make([][]api.Part, 4)
		for i, k := range who {
			m[k].Topics = []string{"u", "t"}
			want[k] = [][]api.Part{of("t", 0, 2, 4), of("t", 1, 3)}[i]
		}
		if got, e := Robin(l, m); e != api.OK || !same(got, want) {
			t.Errorf("%v: %v, %d", who, got, e)
		}
	}
	for k := range 8 {
		m := all(8)
		m[k].Topics = []string{"t"}
		want := make([][]api.Part, 8)
		want[k] = of("t", 0, 1, 2, 3, 4)
		for _, w := range ways {
			if got, e := w.give(l, m); e != api.OK || !same(got, want) {
				t.Errorf("%s, %d: %v, %d", w.name, k, got, e)
			}
		}
	}
}

// The place is carried on from one topic to the next, past those that none wants.
func TestRobinCarriesThePlaceOn(t *testing.T) {
	names := []string{"a", "b", "c", "d", "e", "f", "g", "h"}
	for k := 1; k <= 8; k++ {
		for n := 1; n <= 8; n++ {
			for none := -1; none < 8; none++ {
				var l []api.Topic
				var wants []string
				for i, s := range names {
					l = append(l, topic(s, 1+(i+n)%8))
					if i != none {
						wants = append(wants, s)
					}
				}
				want := make([][]api.Part, k)
				next := 0
				for i, x := range l {
					for part := 0; i != none && part < x.N; part++ {
						want[next] = append(want[next], at(x.Name, part))
						next = (next + 1) % k
					}
				}
				got, e := Robin(l, all(k, wants...))
				if e != api.OK || !same(got, want) {
					t.Fatalf("%d members, %v without %d: %v, %d, want %v", k, l, none, got, e, want)
				}
			}
		}
	}
}

// Each call begins at the first member anew, also behind one that was refused.
func TestRobinBeginsAnew(t *testing.T) {
	l, m := []api.Topic{topic("t", 3)}, all(2, "t")
	want := [][]api.Part{of("t", 0, 2), of("t", 1)}
	for i := range 5 {
		if got, e := Robin(l, m); e != api.OK || !same(got, want) {
			t.Errorf("%d: %v, %d", i, got, e)
		}
		Robin(eight()[:i+1], all(3, "-", "a"))
		Robin(l, all(9, "t"))
		Robin(l, named("b", "a"))
	}
}

// P10.4

func TestWhose(t *testing.T) {
	a := [][]api.Part{of("t", 0, 3), nil, {at("a", 0), at("t", 1)}, {}, of("t", 1, 2, 2)}
	for i, x := range []struct {
		a    [][]api.Part
		p    api.Part
		want int
	}{
		// In the first list, in one between, in the last one; its first part, its last one.
		{a, at("t", 0), 0},
		{a, at("t", 3), 0},
		{a, at("a", 0), 2},
		{a, at("t", 2), 4},
		// In two lists: the first one.
		{a, at("t", 1), 2},
		{slices.Repeat([][]api.Part{of("t", 1)}, 8), at("t", 1), 0},
		{[][]api.Part{nil, of("t", 1), of("t", 1)}, at("t", 1), 1},
		// In none: another topic, another number, or no partition at all.
		{a, at("t", 4), -1},
		{a, at("a", 1), -1},
		{a, at("a", 3), -1},
		{a, at("b", 0), -1},
		{a, at("T", 0), -1},
		{a, at("", 0), -1},
		{a, at("t", -1), -1},
		{a, at("t", 1<<32), -1},
		{a, at("t", math.MinInt), -1},
		{a, at("t", math.MaxInt), -1},
		{a, at("tt", 0), -1},
		{a, at("t\x00", 0), -1},
		{a, api.Part{}, -1},
		// Of no lists, and of empty ones.
		{nil, at("t", 0), -1},
		{nil, api.Part{}, -1},
		{[][]api.Part{}, at("t", 0), -1},
		{[][]api.Part{nil}, at("t", 0), -1},
		{[][]api.Part{nil, {}, nil}, api.Part{}, -1},
		// Any part may be asked for, and any number of lists.
		{[][]api.Part{nil, {api.Part{}}}, api.Part{}, 1},
		{[][]api.Part{of("t", -5), of("t", -1)}, at("t", -1), 1},
		{[][]api.Part{of("\xff", 99), of("\xfe", 99)}, at("\xfe", 99), 1},
		{append(make([][]api.Part, 1000), of("t", 1)), at("t", 1), 1000},
	} {
		if got := Whose(x.a, x.p); got != x.want {
			t.Errorf("%d: Whose(%v, %v): %d, want %d", i, x.a, x.p, got, x.want)
		}
	}
}

// What lies in the room behind a list is none of its parts.
func TestWhoseOfRoom(t *testing.T) {
	whole := [][]api.Part{of("t", 0, 1, 2)[:1], of("t", 3), of("t", 4)}
	for p, want := range map[api.Part]int{at("t", 0): 0, at("t", 1): -1, at("t", 2): -1, at("t", 3): 1, at("t", 4): -1} {
		if got := Whose(whole[:2], p); got != want {
			t.Errorf("%v: %d, want %d", p, got, want)
		}
	}
}

// P10.5

// fair tells where a partition is not one member's that wants it, and where shares differ by more than one.
func fair(t *testing.T, l []api.Topic, m []api.Member) {
	t.Helper()
	for _, w := range ways {
		a, e := w.give(l, m)
		if e != api.OK || len(a) != len(m) {
			t.Fatalf("%s(%v, %v): %v, %d", w.name, l, m, a, e)
		}
		total := 0
		for _, x := range l {
			wanted := 0
			for _, one := range m {
				if Wants(one, x.Name) {
					wanted = 1
				}
			}
			total += x.N * wanted
			for n := range x.N {
				k := Whose(a, at(x.Name, n))
				if (k >= 0) != (wanted > 0) || k >= 0 && !Wants(m[k], x.Name) {
					t.Fatalf("%s(%v, %v): %v: %s %d is member %d's", w.name, l, m, a, x.Name, n, k)
				}
			}
		}
		// As each one that is wanted is somebody's, and they are no more, none is two members', and no other one is anybody's.
		if n := len(slices.Concat(a...)); n != total {
			t.Fatalf("%s(%v, %v): %v: %d, of %d", w.name, l, m, a, n, total)
		}
		if w.name == "Range" {
			fairOfEach(t, l, m, a)
		} else {
			fairOfAll(t, l, m, a)
		}
	}
}

// apart tells by how much numbers differ.
func apart(l []int) int {
	if len(l) == 0 {
		return 0
	}
	return slices.Max(l) - slices.Min(l)
}

// Of each topic no two that want it differ by more than one.
func fairOfEach(t *testing.T, l []api.Topic, m []api.Member, a [][]api.Part) {
	t.Helper()
	for _, x := range l {
		var shares []int
		for k := range m {
			if Wants(m[k], x.Name) {
				shares = append(shares, len(slices.DeleteFunc(slices.Clone(a[k]), func(p api.Part) bool { return p.Topic != x.Name })))
			}
		}
		if apart(shares) > 1 {
			t.Fatalf("Range(%v, %v): of %s they have %v", l, m, x.Name, shares)
		}
	}
}

// If all want all, no two differ by more than one, all topics together.
func fairOfAll(t *testing.T, l []api.Topic, m []api.Member, a [][]api.Part) {
	t.Helper()
	var shares []int
	for k := range m {
		for _, x := range l {
			if !Wants(m[k], x.Name) {
				return
			}
		}
		shares = append(shares, len(a[k]))
	}
	if apart(shares) > 1 {
		t.Fatalf("Robin(%v, %v): they have %v", l, m, shares)
	}
}

// Whoever of four members wants which of three topics.
func TestFairWhoeverWants(t *testing.T) {
	names := []string{"a", "b", "c"}
	for _, sizes := range [][]int{{1, 1, 1}, {3, 2, 5}, {8, 1, 7}, {2, 4, 6}} {
		var l []api.Topic
		for i, n := range sizes {
			l = append(l, topic(names[i], n))
		}
		for bits := range 1 << 12 {
			m := all(4)
			for i := range 12 {
				if bits>>i&1 == 1 {
					m[i/3].Topics = append(m[i/3].Topics, names[i%3])
				}
			}
			gives(t, l, m)
			fair(t, l, m)
		}
	}
}

// drawn are topics and members that may be, at random.
func drawn(r *chance) ([]api.Topic, []api.Member) {
	names := []string{"-", "0", "a", "aa", "ab", "b", "t", "t1", "t10", "t2", "z", "zzzzzzzzzzzzzzzz"}
	var l []api.Topic
	for left := r.below(9); len(l) < left; {
		at := r.below(len(names))
		l = append(l, topic(names[at], 1+r.below(8)))
		names = slices.Delete(names, at, at+1)
	}
	slices.SortFunc(l, func(a, b api.Topic) int { return strings.Compare(a.Name, b.Name) })
	m := all(r.below(9))
	often := 1 + r.below(4)
	for k := range m {
		m[k].Name += strings.Repeat("x", r.below(3))
		for _, x := range l {
			if r.below(4) < often {
				m[k].Topics = append(m[k].Topics, x.Name)
			}
		}
		m[k].Topics = append(m[k].Topics, []string{"no-such", "", "T", "a", names[0]}[:r.below(6)]...)
	}
	return l, m
}

func TestFairOfAnything(t *testing.T) {
	r := chance(1)
	for range 20000 {
		l, m := drawn(&r)
		gives(t, l, m)
		fair(t, l, m)
	}
}

// All want all.
func TestFairOfAll(t *testing.T) {
	for k := range 9 {
		for n := range 9 {
			l := eight()[:n]
			var wants []string
			for _, x := range l {
				wants = append(wants, x.Name)
			}
			gives(t, l, all(k, wants...))
			fair(t, l, all(k, wants...))
		}
	}
}

// The answer hangs on topics and members alone: neither on the members' names, as long as they rise, nor on how their wants are told, nor on what was asked ahead of it.
func TestAnswersHangOnNothingElse(t *testing.T) {
	r := chance(2)
	for range 2000 {
		l, m := drawn(&r)
		other := slices.Clone(m)
		for k := range other {
			other[k].Name = "other-" + strconv.Itoa(k)
			other[k].Topics = slices.Concat(m[k].Topics, m[k].Topics)
			slices.Reverse(other[k].Topics)
		}
		for _, w := range ways {
			a, _ := w.give(l, m)
			w.give(drawn(&r))
			b, e := w.give(l, other)
			if e != api.OK || !same(a, b) {
				t.Fatalf("%s(%v, %v): %v, then %v, %d", w.name, l, m, a, b, e)
			}
		}
	}
}

// R1

// Whatever is handed in, there is an answer, and the right one.
func TestAnythingIsAnswered(t *testing.T) {
	r := chance(3)
	told := map[api.Errno]int{}
	for range 20000 {
		l, m := drawn(&r)
		switch r.below(6) {
		case 0:
			for range r.below(4) {
				l = append(l, topic("z"+strconv.Itoa(r.below(10)), 1))
			}
		case 1:
			if len(l) > 0 {
				l[r.below(len(l))].N = []int{math.MinInt, -1, 0, 9, math.MaxInt}[r.below(5)]
			}
		case 2:
			if len(l) > 0 {
				l[r.below(len(l))].Name = []string{"", "A", "a", "t1", "t_", "\xff"}[r.below(6)]
			}
		case 3:
			if len(m) > 0 {
				m[r.below(len(m))].Name = []string{"", "m", "m3", "n", "\xff"}[r.below(5)]
			}
		case 4:
			m = append(m, all(r.below(4))...)
		}
		want := plainCheck(l, m)
		told[want]++
		if want == api.OK {
			gives(t, l, m)
		} else {
			refuses(t, l, m, want)
		}
	}
	if len(told) != 4 {
		t.Errorf("what was drawn comes to %v", told)
	}
}

// R4

// roomy is a list with room behind it, and the whole of it.
func roomy[T any](l []T, behind T) ([]T, []T) {
	whole := append(slices.Clone(l), behind, behind, behind)
	return whole[:len(l)], whole
}

// spoil fills a list, and the room behind it.
func spoil[T any](l []T, by T) {
	l = l[:cap(l)]
	for i := range l {
		l[i] = by
	}
}

func sameMembers(a, b []api.Member) bool {
	return slices.EqualFunc(a, b, func(x, y api.Member) bool {
		return x.Name == y.Name && slices.Equal(x.Topics, y.Topics)
	})
}

// handed are topics and members in lists with room, with all that is in them, and a function that tells whether they are as they were.
func handed(l []api.Topic, m []api.Member) ([]api.Topic, []api.Member, func() bool) {
	l, wholeL := roomy(l, topic("room", 8))
	m, wholeM := roomy(m, member("room", "room"))
	wasL, wasM := slices.Clone(wholeL), slices.Clone(wholeM)
	var wants, wasWants [][]string
	for k := range m {
		topics, whole := roomy(m[k].Topics, "room")
		m[k].Topics = topics
		wasM[k].Topics = slices.Clone(topics)
		wants, wasWants = append(wants, whole), append(wasWants, slices.Clone(whole))
	}
	return l, m, func() bool {
		return slices.Equal(wholeL, wasL) && sameMembers(wholeM, wasM) && slices.EqualFunc(wants, wasWants, slices.Equal)
	}
}

func TestWhatIsHandedInStays(t *testing.T) {
	r := chance(4)
	for i := range 2000 {
		l, m, stays := handed(drawn(&r))
		switch i % 8 {
		case 0:
			l = l[:len(l)/2]
		case 1:
			m = m[:len(m)/2]
		}
		for _, w := range ways {
			got, e := w.give(l, m)
			want := copied(got)
			if !stays() || e != api.OK {
				t.Fatalf("%s made it into %v, %v", w.name, l, m)
			}
			Check(l, m)
			for k := range m {
				Wants(m[k], "t")
			}
			if !stays() {
				t.Fatalf("Check or Wants made it into %v, %v", l, m)
			}
			// It is not kept either: spoiling what was handed in changes nothing of what was told, nor of what is told then.
			again, other, _ := handed(l, m)
			told, e := w.give(again, other)
			for k := range other {
				spoil(other[k].Topics, "spoilt")
			}
			spoil(again, topic("spoilt", 1))
			spoil(other, member("spoilt", "spoilt"))
			if e != api.OK || !same(told, want) {
				t.Fatalf("%s: %v, %d, want %v", w.name, told, e, want)
			}
			if a, e := w.give(l, m); e != api.OK || !same(a, want) || !same(got, want) {
				t.Fatalf("%s: then %v, %d, want %v", w.name, a, e, want)
			}
		}
	}
}

// What is refused stays as it was too.
func TestWhatIsRefusedStays(t *testing.T) {
	for i, x := range []struct {
		l []api.Topic
		m []api.Member
	}{
		{[]api.Topic{topic("b", 1), topic("a", 1)}, all(2, "b", "a")},
		{append(eight(), topic("zz", 1)), all(2, "b", "a")},
		{eight(), all(9, "b", "a")},
		{eight(), []api.Member{member("b", "t", "a", "t"), member("a", "t")}},
		{eight(), []api.Member{member("a", "t", "a", "t"), member("a", "t")}},
	} {
		l, m, stays := handed(x.l, x.m)
		refuses(t, l, m, plainCheck(x.l, x.m))
		if !stays() {
			t.Errorf("%d: it is made into %v, %v", i, l, m)
		}
	}
}

func TestWhoseLeavesItsListsAsTheyAre(t *testing.T) {
	first, whole := roomy(of("t", 3, 1, 2), at("room", 1))
	a, outer := roomy([][]api.Part{nil, first, of("a", 2, 0)}, of("room", 2))
	was, wasOuter := slices.Clone(whole), copied(outer)
	for _, p := range []api.Part{at("t", 2), at("a", 0), at("room", 1), at("room", 2), at("b", 0)} {
		Whose(a, p)
	}
	if !slices.Equal(whole, was) || !same(outer, wasOuter) {
		t.Errorf("it is made into %v", outer)
	}
}

// What is told is its owner's: spoilt, room and all, it changes nothing that is told then, and no list of it changes another one.
func TestWhatIsToldIsItsOwners(t *testing.T) {
	r := chance(5)
	for range 2000 {
		l, m := drawn(&r)
		for _, w := range ways {
			first, _ := w.give(l, m)
			second, _ := w.give(l, m)
			want := copied(first)
			for k := range second {
				spoil(second[k], at("spoilt", 9))
				for j := k + 1; j < len(second); j++ {
					if !slices.Equal(second[j], want[j]) {
						t.Fatalf("%s(%v, %v): list %d is spoilt with list %d", w.name, l, m, j, k)
					}
				}
			}
			spoil(second, of("spoilt", 9))
			third, e := w.give(l, m)
			if !same(first, want) || e != api.OK || !same(third, want) {
				t.Fatalf("%s(%v, %v): %v, then %v, %d, want %v", w.name, l, m, first, third, e, want)
			}
			// The other way about: the lists that stand ahead, and what is put behind one.
			for k := len(first) - 1; k >= 0; k-- {
				spoil(append(first[k], at("more", 1)), at("spoilt", 9))
				for j := range k {
					if !slices.Equal(first[j], want[j]) {
						t.Fatalf("%s(%v, %v): list %d is spoilt with list %d", w.name, l, m, j, k)
					}
				}
			}
		}
	}
}

// heldBytes is how much memory is in use.
func heldBytes() int64 {
	runtime.GC()
	var m runtime.MemStats
	runtime.ReadMemStats(&m)
	return int64(m.HeapAlloc)
}

// Names that are pieces of great texts are handed in, and lists with room: they are not kept in what is told.
func TestGreatThingsAreNotKept(t *testing.T) {
	const great, n = 1 << 20, 20
	for _, w := range ways {
		before := heldBytes()
		var kept [][][]api.Part
		for i := range n {
			text := strings.Repeat("x", great)
			l := append(make([]api.Topic, 0, great/24), topic(text[i:i+9], 8))
			m := append(make([]api.Member, 0, great/40), member(text[:i], text[i:i+9]), member(text[:great/2], text[2*i:2*i+9], text))
			a, e := w.give(l, m)
			if e != api.OK || len(a) != 2 || len(a[0]) != 4 || len(a[1]) != 4 {
				t.Fatalf("%s: %d lists, %d", w.name, len(a), e)
			}
			kept = append(kept, a)
		}
		if more := heldBytes() - before; more > great {
			t.Errorf("%s: %d bytes are kept", w.name, more)
		}
		runtime.KeepAlive(kept)
	}
}
