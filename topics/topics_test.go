package topics

import (
	"math"
	"runtime"
	"slices"
	"strconv"
	"strings"
	"testing"

	"stagecoach/api"
)

// plain is a catalog as the chapter's words say it: a list of topics in the order in which they were made, and each answer made by going over all of it.
type plain []api.Topic

// isName is of 1 to 16 bytes, each a to z, 0 to 9, or -.
func isName(s string) bool {
	return 1 <= len(s) && len(s) <= 16 && strings.Trim(s, "abcdefghijklmnopqrstuvwxyz0123456789-") == ""
}

// below holds names against each other byte by byte.
func below(a, b string) bool {
	for i := 0; i < len(a) && i < len(b); i++ {
		if a[i] != b[i] {
			return a[i] < b[i]
		}
	}
	return len(a) < len(b)
}

// place is where a topic is; -1, if there is none.
func (p plain) place(name string) int {
	for i, x := range p {
		if x.Name == name {
			return i
		}
	}
	return -1
}

func (p *plain) make(name string, n int) api.Errno {
	switch {
	case !isName(name) || n < 1 || n > 8:
		return 1
	case p.place(name) >= 0:
		return 90
	case len(*p) == 8:
		return 2
	}
	*p = append(*p, api.Topic{Name: name, N: n})
	return 0
}

func (p plain) grow(name string, n int) api.Errno {
	i := p.place(name)
	switch {
	case i < 0:
		return 91
	case n > 8 || n < p[i].N:
		return 1
	}
	p[i].N = n
	return 0
}

func (p *plain) drop(name string) api.Errno {
	i := p.place(name)
	if i < 0 {
		return 91
	}
	*p = slices.Delete(slices.Clone(*p), i, i+1)
	return 0
}

func (p plain) n(name string) int {
	if i := p.place(name); i >= 0 {
		return p[i].N
	}
	return 0
}

func (p plain) has(part api.Part) bool {
	for n := range p.n(part.Topic) {
		if n == part.N {
			return true
		}
	}
	return false
}

// list are all topics, each one put in its place.
func (p plain) list() []api.Topic {
	var l []api.Topic
	for _, x := range p {
		at := 0
		for at < len(l) && below(l[at].Name, x.Name) {
			at++
		}
		l = slices.Insert(l, at, x)
	}
	return l
}

func (p plain) parts(names []string) []api.Part {
	var l []api.Part
	for _, x := range p.list() {
		asked := 0
		for _, s := range names {
			if s == x.Name {
				asked++
			}
		}
		for n := 0; asked > 0 && n < x.N; n++ {
			l = append(l, api.Part{Topic: x.Name, N: n})
		}
	}
	return l
}

func (p plain) copy() plain {
	return slices.Clone(p)
}

// all are the names of all topics, in the order in which they were made.
func (p plain) all() []string {
	var l []string
	for _, x := range p {
		l = append(l, x.Name)
	}
	return l
}

// match tells where a catalog and its plain one differ.
func match(t *testing.T, c *Catalog, p plain) {
	t.Helper()
	tells(t, c, p)
	others := []string{"", "no-such", "A", "a", "a\x00", "t", "t0", "t00", "\xff", strings.Repeat("t", 17), strings.Repeat("t", 1000)}
	for _, x := range p {
		others = append(others, x.Name, x.Name+"-", x.Name[1:], x.Name[:len(x.Name)-1], strings.ToUpper(x.Name), " "+x.Name)
	}
	for _, name := range others {
		if got, want := c.N(name), p.n(name); got != want {
			t.Fatalf("N(%q): %d, want %d", name, got, want)
		}
		for _, n := range []int{math.MinInt, -8, -2, -1, 0, 1, 2, 3, 4, 5, 6, 7, 8, 9, 256, 1 << 32, 1<<32 + 1, math.MaxInt} {
			part := at(name, n)
			if got, want := c.Has(part), p.has(part); got != want {
				t.Fatalf("Has(%q, %d): %v, want %v", name, n, got, want)
			}
		}
	}
	all := p.all()
	asked := [][]string{nil, {}, all, turned(all), append(all, all...), others, turned(others), {"no-such"}}
	for i := range all {
		asked = append(asked, all[:i], all[i:], []string{all[i]}, []string{all[i], "no-such", all[i]})
	}
	for _, names := range asked {
		if got, want := c.Parts(names), p.parts(names); !slices.Equal(got, want) {
			t.Fatalf("Parts(%q): %v, want %v", names, got, want)
		}
	}
	// Asking has changed nothing.
	tells(t, c, p)
}

// tells tells where the topics differ.
func tells(t *testing.T, c *Catalog, p plain) {
	t.Helper()
	if got, want := c.List(), p.list(); !slices.Equal(got, want) {
		t.Fatalf("List: %v, want %v", got, want)
	}
}

func turned(l []string) []string {
	l = slices.Clone(l)
	slices.Reverse(l)
	return l
}

func at(topic string, n int) api.Part {
	return api.Part{Topic: topic, N: n}
}

func topic(name string, n int) api.Topic {
	return api.Topic{Name: name, N: n}
}

// made are topics, in a catalog and in its plain one.
func made(t *testing.T, l ...api.Topic) (*Catalog, *plain) {
	t.Helper()
	c, p := New(), &plain{}
	for _, x := range l {
		mustMake(t, c, p, x.Name, x.N)
	}
	return c, p
}

func mustMake(t *testing.T, c *Catalog, p *plain, name string, n int) {
	t.Helper()
	if e, want := c.Make(name, n), p.make(name, n); e != api.OK || want != api.OK {
		t.Fatalf("Make(%q, %d): %d, the plain one says %d", name, n, e, want)
	}
}

// eight are as many topics as there may be, of 1 to 8 partitions, not by rising names.
func eight() []api.Topic {
	return []api.Topic{topic("t", 4), topic("a", 8), topic("t2", 1), topic("-", 2), topic("t10", 7), topic("zzzzzzzzzzzzzzzz", 5), topic("0", 3), topic("aa", 6)}
}

// rising are those in the order in which they are told.
func rising() []api.Topic {
	return []api.Topic{topic("-", 2), topic("0", 3), topic("a", 8), topic("aa", 6), topic("t", 4), topic("t10", 7), topic("t2", 1), topic("zzzzzzzzzzzzzzzz", 5)}
}

func mustLoad(t *testing.T, l []api.Topic) *Catalog {
	t.Helper()
	c, e := Load(l)
	if e != api.OK || c == nil {
		t.Fatalf("Load(%v): %v, %d", l, c, e)
	}
	return c
}

// chance is a row of numbers, always the same one, that look like chance.
type chance uint64

func (c *chance) below(n int) int {
	*c = *c*6364136223846793005 + 1442695040888963407
	return int(uint64(*c>>33) % uint64(n))
}

// The chapter's example.

func TestExample(t *testing.T) {
	c := New()
	if e := c.Make("b", 2); e != api.OK {
		t.Errorf("Make b: %d", e)
	}
	if e := c.Make("a", 1); e != api.OK {
		t.Errorf("Make a: %d", e)
	}
	if got := c.Parts([]string{"a", "b"}); !slices.Equal(got, []api.Part{at("a", 0), at("b", 0), at("b", 1)}) {
		t.Errorf("Parts: %v", got)
	}
}

func TestNumbersOfApi(t *testing.T) {
	if api.OK != 0 || api.ErrArg != 1 || api.ErrBig != 2 || api.ErrTopicsThere != 90 || api.ErrTopicsNone != 91 || api.MaxTopics != 8 || api.MaxParts != 8 {
		t.Error("errors and limits are not the chapter's")
	}
}

// P9.1

func TestNew(t *testing.T) {
	c, other := New(), New()
	match(t, c, nil)
	if l := c.List(); len(l) != 0 {
		t.Errorf("List: %v", l)
	}
	// One does not hear of another one.
	c.Make("t", 3)
	match(t, c, plain{topic("t", 3)})
	match(t, other, nil)
}

// goodNames are at the edges of what a name may be.
func goodNames() []string {
	return []string{"a", "z", "0", "9", "-", "--", "-a", "a-", "a0-z9", "topic", "0123456789abcdef", "zzzzzzzzzzzzzzzz", "----------------"}
}

// badNames are no names.
func badNames() []string {
	return []string{
		"", "A", "Z", "tT", "a b", " a", "a ", "_", "a_b", "a.b", "a/b", "`", "{", "/", ":", ",", ".", "a\x00", "\x00", "a\n",
		"\x7f", "\x80", "\xff", "a\xff", "\u00e9", "caf\u00e9", "\uff41", "\u0430", "\ufffd", "\u0661", "\u2010",
		"0123456789abcdefg", "zzzzzzzzzzzzzzzzz", strings.Repeat("a", 1000), "0123456789abcde\u00e9",
	}
}

func TestMakeOfNames(t *testing.T) {
	for _, name := range goodNames() {
		c, p := made(t, topic("t", 2))
		mustMake(t, c, p, name, 3)
		match(t, c, *p)
	}
	for _, name := range badNames() {
		c, p := made(t, topic("t", 2))
		if e := c.Make(name, 3); e != api.ErrArg {
			t.Errorf("Make(%q, 3): %d", name, e)
		}
		match(t, c, *p)
	}
}

func TestMakeOfNumbers(t *testing.T) {
	for _, n := range []int{math.MinInt, math.MinInt + 1, -1 << 32, -9, -8, -1, 0, 1, 2, 3, 4, 5, 6, 7, 8, 9, 10, 16, 255, 256, 257, 1 << 32, 1<<32 + 1, math.MaxInt} {
		c, p := made(t, topic("t", 2))
		want := api.ErrArg
		if 1 <= n && n <= 8 {
			want = api.OK
			p.make("u", n)
		}
		if e := c.Make("u", n); e != want {
			t.Errorf("Make(u, %d): %d, want %d", n, e, want)
		}
		match(t, c, *p)
	}
}

func TestMakeRefuses(t *testing.T) {
	some := []api.Topic{topic("t", 2), topic("a", 8)}
	for i, x := range []struct {
		l    []api.Topic
		name string
		n    int
		e    api.Errno
	}{
		// It is there, with as many, with more, with fewer.
		{some, "t", 2, api.ErrTopicsThere},
		{some, "t", 3, api.ErrTopicsThere},
		{some, "t", 1, api.ErrTopicsThere},
		{some, "t", 8, api.ErrTopicsThere},
		{some, "a", 8, api.ErrTopicsThere},
		// There are eight.
		{eight(), "u", 1, api.ErrBig},
		{eight(), "b", 8, api.ErrBig},
		{eight(), "0123456789abcdef", 8, api.ErrBig},
		// Two faults at once: an argument's is told first, then that it is there.
		{some, "", 0, api.ErrArg},
		{some, "T", 9, api.ErrArg},
		{some, "t", 0, api.ErrArg},
		{some, "t", 9, api.ErrArg},
		{some, "t", -1, api.ErrArg},
		{some, "a", math.MinInt, api.ErrArg},
		{eight(), "", 1, api.ErrArg},
		{eight(), "U", 1, api.ErrArg},
		{eight(), "0123456789abcdefg", 8, api.ErrArg},
		{eight(), "u", 0, api.ErrArg},
		{eight(), "u", 9, api.ErrArg},
		{eight(), "u", -1, api.ErrArg},
		{eight(), "t", 4, api.ErrTopicsThere},
		{eight(), "t2", 8, api.ErrTopicsThere},
		{eight(), "zzzzzzzzzzzzzzzz", 1, api.ErrTopicsThere},
		// Three.
		{eight(), "t", 0, api.ErrArg},
		{eight(), "t", 9, api.ErrArg},
		{eight(), "", 9, api.ErrArg},
	} {
		c, p := made(t, x.l...)
		// Twice, as the first time changes nothing.
		for range 2 {
			if e := c.Make(x.name, x.n); e != x.e {
				t.Errorf("%d: Make(%q, %d): %d, want %d", i, x.name, x.n, e, x.e)
			}
			match(t, c, *p)
		}
	}
}

func TestMakeUpToEight(t *testing.T) {
	c, p := New(), &plain{}
	for i, x := range eight() {
		if e := c.Make(x.Name, x.N); e != api.OK {
			t.Fatalf("%d: Make: %d", i, e)
		}
		p.make(x.Name, x.N)
		match(t, c, *p)
	}
	if e := c.Make("ninth", 1); e != api.ErrBig {
		t.Errorf("the ninth one: %d", e)
	}
	match(t, c, *p)
	if got := c.List(); !slices.Equal(got, rising()) {
		t.Errorf("List: %v", got)
	}
}

func TestGrow(t *testing.T) {
	for i, x := range []struct {
		name string
		n    int
		e    api.Errno
	}{
		// To as many as it has, to more, to 8.
		{"t", 4, api.OK},
		{"t", 5, api.OK},
		{"t", 7, api.OK},
		{"t", 8, api.OK},
		{"a", 8, api.OK},
		{"t2", 1, api.OK},
		{"t2", 2, api.OK},
		{"t2", 8, api.OK},
		// To fewer, to 9.
		{"t", 3, api.ErrArg},
		{"t", 1, api.ErrArg},
		{"t", 0, api.ErrArg},
		{"t", -1, api.ErrArg},
		{"t", math.MinInt, api.ErrArg},
		{"t", 9, api.ErrArg},
		{"t", 10, api.ErrArg},
		{"t", 1<<32 + 5, api.ErrArg},
		{"t", math.MaxInt, api.ErrArg},
		{"a", 7, api.ErrArg},
		{"a", 9, api.ErrArg},
		{"t2", 0, api.ErrArg},
		{"t2", 9, api.ErrArg},
		// It is not there.
		{"u", 4, api.ErrTopicsNone},
		{"u", 1, api.ErrTopicsNone},
		{"u", 8, api.ErrTopicsNone},
		{"t1", 4, api.ErrTopicsNone},
		{"", 4, api.ErrTopicsNone},
		{"T", 4, api.ErrTopicsNone},
		{"\xff", 4, api.ErrTopicsNone},
		{"0123456789abcdefg", 4, api.ErrTopicsNone},
		// Two faults at once: that it is not there is told first.
		{"u", 0, api.ErrTopicsNone},
		{"u", -1, api.ErrTopicsNone},
		{"u", 9, api.ErrTopicsNone},
		{"u", math.MinInt, api.ErrTopicsNone},
		{"u", math.MaxInt, api.ErrTopicsNone},
		{"", 0, api.ErrTopicsNone},
		{"", 9, api.ErrTopicsNone},
		{"T", 9, api.ErrTopicsNone},
	} {
		c, p := made(t, eight()...)
		was := c.List()
		if want := p.grow(x.name, x.n); want != x.e {
			t.Fatalf("%d: the plain one says %d", i, want)
		}
		if e := c.Grow(x.name, x.n); e != x.e {
			t.Errorf("%d: Grow(%q, %d): %d, want %d", i, x.name, x.n, e, x.e)
		}
		match(t, c, *p)
		if x.e != api.OK && !slices.Equal(c.List(), was) {
			t.Errorf("%d: %v, was %v", i, c.List(), was)
		}
	}
}

func TestGrowOfNone(t *testing.T) {
	c := New()
	for _, n := range []int{-1, 0, 1, 8, 9} {
		if e := c.Grow("t", n); e != api.ErrTopicsNone {
			t.Errorf("Grow(t, %d): %d", n, e)
		}
	}
	match(t, c, nil)
}

func TestGrowStepByStep(t *testing.T) {
	c, p := made(t, topic("t", 1), topic("u", 5))
	for n := 1; n <= 8; n++ {
		for range 2 {
			if e := c.Grow("t", n); e != api.OK {
				t.Errorf("Grow(t, %d): %d", n, e)
			}
			p.grow("t", n)
			match(t, c, *p)
		}
		if e := c.Grow("t", n-1); e != api.ErrArg {
			t.Errorf("Grow back to %d: %d", n-1, e)
		}
		match(t, c, *p)
	}
	if c.N("t") != 8 || c.N("u") != 5 {
		t.Errorf("t has %d, u has %d", c.N("t"), c.N("u"))
	}
}

func TestDrop(t *testing.T) {
	for _, x := range eight() {
		c, p := made(t, eight()...)
		if e := c.Drop(x.Name); e != api.OK {
			t.Errorf("Drop(%q): %d", x.Name, e)
		}
		p.drop(x.Name)
		match(t, c, *p)
		// It is there no more.
		for _, e := range []api.Errno{c.Drop(x.Name), c.Grow(x.Name, x.N), c.Grow(x.Name, 9)} {
			if e != api.ErrTopicsNone {
				t.Errorf("of %q behind Drop: %d", x.Name, e)
			}
		}
		match(t, c, *p)
		// There is room for one, and its name may come again, with fewer.
		for _, name := range []string{x.Name, "ninth"} {
			mustMake(t, c, p, name, 1)
			match(t, c, *p)
			if e := c.Make("tenth", 1); e != api.ErrBig {
				t.Errorf("a ninth one: %d", e)
			}
			c.Drop(name)
			p.drop(name)
			match(t, c, *p)
		}
	}
}

func TestDropOfOthers(t *testing.T) {
	for _, l := range [][]api.Topic{nil, {topic("t", 2)}, eight()} {
		c, p := made(t, l...)
		for _, name := range append(badNames(), "u", "t1", "t-", "tt", "ninth") {
			if e := c.Drop(name); e != api.ErrTopicsNone {
				t.Errorf("of %d Drop(%q): %d", len(l), name, e)
			}
		}
		match(t, c, *p)
	}
}

func TestDropOfAll(t *testing.T) {
	c, p := made(t, eight()...)
	for _, x := range rising() {
		if e := c.Drop(x.Name); e != api.OK {
			t.Errorf("Drop(%q): %d", x.Name, e)
		}
		p.drop(x.Name)
		match(t, c, *p)
	}
	match(t, c, nil)
	// All of them come again, with other numbers.
	for _, x := range eight() {
		mustMake(t, c, p, x.Name, 9-x.N)
	}
	match(t, c, *p)
}

// P9.2

func TestHasAndN(t *testing.T) {
	c, p := made(t, topic("a", 1), topic("t", 3), topic("z", 8))
	for i, x := range []struct {
		part api.Part
		want bool
	}{
		{at("a", 0), true}, {at("a", 1), false}, {at("a", -1), false},
		{at("t", 0), true}, {at("t", 1), true}, {at("t", 2), true}, {at("t", 3), false}, {at("t", 4), false}, {at("t", -1), false},
		{at("z", 0), true}, {at("z", 7), true}, {at("z", 8), false}, {at("z", 9), false}, {at("z", -1), false},
		{at("t", math.MinInt), false}, {at("t", math.MaxInt), false}, {at("t", 1<<32+1), false}, {at("t", -1<<32), false},
		{at("u", 0), false}, {at("u", 1), false}, {at("u", -1), false},
		{at("", 0), false}, {at("T", 0), false}, {at("tt", 0), false}, {at("\xff", 0), false}, {at("t\x00", 0), false}, {api.Part{}, false},
	} {
		if got := c.Has(x.part); got != x.want {
			t.Errorf("%d: Has(%q, %d): %v", i, x.part.Topic, x.part.N, got)
		}
	}
	for name, want := range map[string]int{"a": 1, "t": 3, "z": 8, "u": 0, "": 0, "T": 0, "tt": 0, "\xff": 0, "t\x00": 0} {
		if got := c.N(name); got != want {
			t.Errorf("N(%q): %d, want %d", name, got, want)
		}
	}
	match(t, c, *p)
}

func TestParts(t *testing.T) {
	c, p := made(t, topic("t2", 1), topic("b", 2), topic("t10", 1), topic("a", 3), topic("a-", 1))
	a, ad, b, t10, t2 := []api.Part{at("a", 0), at("a", 1), at("a", 2)}, []api.Part{at("a-", 0)}, []api.Part{at("b", 0), at("b", 1)}, []api.Part{at("t10", 0)}, []api.Part{at("t2", 0)}
	all := slices.Concat(a, ad, b, t10, t2)
	for i, x := range []struct {
		names []string
		want  []api.Part
	}{
		{nil, nil},
		{[]string{}, nil},
		{[]string{"a"}, a},
		{[]string{"b"}, b},
		{[]string{"t2"}, t2},
		// Not there, or no names.
		{[]string{"c"}, nil},
		{[]string{"c", "", "A", "t", "t1", "aa", "\xff"}, nil},
		{[]string{"c", "b", ""}, b},
		{[]string{"aa", "a", "a0"}, a},
		{slices.Concat(badNames(), []string{"t10"}, badNames()), t10},
		// A name twice, and more often.
		{[]string{"b", "b"}, b},
		{[]string{"b", "a", "b"}, slices.Concat(a, b)},
		{slices.Repeat([]string{"a", "t2"}, 1000), slices.Concat(a, t2)},
		// In any order.
		{[]string{"a", "b"}, slices.Concat(a, b)},
		{[]string{"b", "a"}, slices.Concat(a, b)},
		{[]string{"t2", "t10"}, slices.Concat(t10, t2)},
		{[]string{"a-", "a"}, slices.Concat(a, ad)},
		{[]string{"a", "a-", "b", "t10", "t2"}, all},
		{[]string{"t2", "t10", "b", "a-", "a"}, all},
		{[]string{"b", "t2", "a", "t10", "a-"}, all},
	} {
		for range 5 {
			if got := c.Parts(x.names); !slices.Equal(got, x.want) {
				t.Errorf("%d: Parts(%q): %v, want %v", i, x.names, got, x.want)
			}
		}
	}
	match(t, c, *p)
	if got := New().Parts([]string{"a", "b"}); len(got) != 0 {
		t.Errorf("of no topics: %v", got)
	}
}

// Whichever topics are asked for, of eight, in whichever order.
func TestPartsOfSome(t *testing.T) {
	c, p := made(t, eight()...)
	for some := range 256 {
		var names []string
		for i, x := range eight() {
			if some>>i&1 == 1 {
				names = append(names, x.Name)
			}
		}
		for _, l := range [][]string{names, turned(names), append(turned(names), names...)} {
			if got, want := c.Parts(l), p.parts(names); !slices.Equal(got, want) {
				t.Fatalf("Parts(%q): %v, want %v", l, got, want)
			}
		}
	}
}

// inOrder are names in the order in which they are told.
func inOrder() []string {
	return []string{"-", "--", "-0", "-a", "0", "0-", "00", "1", "10", "2", "9", "a", "a-", "a0", "aa", "aaa", "ab", "b", "ba", "t", "t-1", "t1", "t10", "t2", "tt", "z", "zzzzzzzzzzzzzzz", "zzzzzzzzzzzzzzzz"}
}

func TestListIsByRisingNames(t *testing.T) {
	for seed := range 200 {
		rest := inOrder()
		r := chance(seed)
		c, n := New(), r.below(9)
		var chosen []string
		for range n {
			i := r.below(len(rest))
			if e := c.Make(rest[i], 1+len(chosen)); e != api.OK {
				t.Fatalf("Make(%q): %d", rest[i], e)
			}
			chosen = append(chosen, rest[i])
			rest = slices.Delete(rest, i, i+1)
		}
		var want []api.Topic
		var wantParts []api.Part
		for _, name := range inOrder() {
			if i := slices.Index(chosen, name); i >= 0 {
				want = append(want, topic(name, 1+i))
				for k := range 1 + i {
					wantParts = append(wantParts, at(name, k))
				}
			}
		}
		// The same again, however the map is gone through.
		for range 5 {
			if got := c.List(); !slices.Equal(got, want) {
				t.Errorf("List: %v, want %v", got, want)
			}
			if got := c.Parts(chosen); !slices.Equal(got, wantParts) {
				t.Errorf("Parts: %v, want %v", got, wantParts)
			}
		}
	}
}

func TestList(t *testing.T) {
	if got := New().List(); len(got) != 0 {
		t.Errorf("of none: %v", got)
	}
	c := New()
	c.Make("t", 5)
	if got := c.List(); !slices.Equal(got, []api.Topic{topic("t", 5)}) {
		t.Errorf("of one: %v", got)
	}
	c, _ = made(t, eight()...)
	if got := c.List(); !slices.Equal(got, rising()) {
		t.Errorf("of eight: %v", got)
	}
}

// change does all that changes a catalog.
func change(t *testing.T, c *Catalog, p *plain) {
	t.Helper()
	do := func(what string, e, want api.Errno) {
		t.Helper()
		if e != want {
			t.Fatalf("%s: %d, want %d", what, e, want)
		}
	}
	do("Drop", c.Drop("t"), p.drop("t"))
	do("Make", c.Make("more", 4), p.make("more", 4))
	do("Make", c.Make("t", 2), p.make("t", 2))
	for _, x := range p.list() {
		do("Grow", c.Grow(x.Name, x.N+1), p.grow(x.Name, x.N+1))
	}
	do("Drop", c.Drop("a"), p.drop("a"))
}

func TestCopy(t *testing.T) {
	for name, build := range map[string]func() (*Catalog, *plain){
		"empty":    func() (*Catalog, *plain) { return made(t) },
		"one":      func() (*Catalog, *plain) { return made(t, topic("t", 3)) },
		"all":      func() (*Catalog, *plain) { return made(t, eight()...) },
		"loaded":   func() (*Catalog, *plain) { _, p := made(t, rising()...); return mustLoad(t, rising()), p },
		"emptied":  func() (*Catalog, *plain) { c, p := made(t, topic("t", 3)); c.Drop("t"); p.drop("t"); return c, p },
		"a copy's": func() (*Catalog, *plain) { c, p := made(t, eight()...); return c.Copy().Copy(), p },
	} {
		c, p := build()
		d := c.Copy()
		if d == c {
			t.Fatalf("%s: it is the same one", name)
		}
		match(t, d, *p)
		// What one does the other one does not hear of, whichever it is.
		for _, x := range []struct{ a, b *Catalog }{{c.Copy(), c}, {c, c.Copy()}, {d, d.Copy()}} {
			q, was := p.copy(), p.copy()
			change(t, x.a, &q)
			match(t, x.a, q)
			match(t, x.b, was)
		}
	}
}

func TestCopiesGoTheirOwnWay(t *testing.T) {
	c, p := made(t, eight()...)
	d, q := c.Copy(), p.copy()
	c.Grow("t", 6)
	p.grow("t", 6)
	match(t, c, *p)
	match(t, d, q)
	d.Grow("t", 8)
	q.grow("t", 8)
	match(t, c, *p)
	match(t, d, q)
	c.Drop("0")
	p.drop("0")
	match(t, c, *p)
	match(t, d, q)
	d.Drop("a")
	q.drop("a")
	match(t, c, *p)
	match(t, d, q)
	mustMake(t, c, p, "only-c", 1)
	match(t, d, q)
	mustMake(t, d, &q, "only-d", 2)
	match(t, c, *p)
	match(t, d, q)
}

// P9.3

func TestLoad(t *testing.T) {
	var longest []api.Topic
	for i := range 8 {
		longest = append(longest, topic("0123456789abcde"+strconv.Itoa(i), 8))
	}
	for i, l := range [][]api.Topic{
		nil,
		{},
		{topic("t", 1)},
		{topic("t", 8)},
		{topic("-", 1), topic("0", 8)},
		{topic("a", 1), topic("b", 8)},
		{topic("a", 3), topic("aa", 3)},
		{topic("t10", 3), topic("t2", 3)},
		{topic("9", 3), topic("a", 3)},
		rising()[:7],
		rising(),
		longest,
	} {
		c, p := mustLoad(t, l), plain(slices.Clone(l))
		if !slices.Equal(c.List(), l) {
			t.Errorf("%d: told %v", i, c.List())
		}
		match(t, c, p)
		// It goes on as one whose topics were made.
		if len(l) == 8 {
			if e := c.Make("ninth", 1); e != api.ErrBig {
				t.Errorf("%d: a ninth one: %d", i, e)
			}
		}
		change(t, c, &p)
		match(t, c, p)
	}
}

func TestLoadOfEachName(t *testing.T) {
	for _, name := range goodNames() {
		l := []api.Topic{topic(name, 2)}
		match(t, mustLoad(t, l), l)
	}
	for _, name := range badNames() {
		for _, l := range [][]api.Topic{{topic(name, 2)}, {topic("-", 1), topic(name, 2)}, {topic(name, 2), topic("zzz", 1)}} {
			if c, e := Load(l); c != nil || e != api.ErrArg {
				t.Errorf("Load(%v): %v, %d", l, c, e)
			}
		}
	}
}

func TestLoadRefuses(t *testing.T) {
	nine := append(rising()[:7], topic("zzzzzzzzzzzzzzz", 5), topic("zzzzzzzzzzzzzzzz", 1))
	of := func(at int, x api.Topic) []api.Topic {
		l := rising()
		l[at] = x
		return l
	}
	of9 := func(at int, x api.Topic) []api.Topic {
		l := slices.Clone(nine)
		l[at] = x
		return l
	}
	names := func(l ...string) []api.Topic {
		var out []api.Topic
		for _, s := range l {
			out = append(out, topic(s, 3))
		}
		return out
	}
	for i, x := range []struct {
		l []api.Topic
		e api.Errno
	}{
		// More than eight, and whatever else.
		{nine, api.ErrBig},
		{append(nine, topic("zzzzzzzzzzzzzzzzz", 1)), api.ErrBig},
		{make([]api.Topic, 9), api.ErrBig},
		{make([]api.Topic, 1000), api.ErrBig},
		{of9(0, topic("", 1)), api.ErrBig},
		{of9(8, topic("Z", 1)), api.ErrBig},
		{of9(4, topic("t", 0)), api.ErrBig},
		{of9(4, topic("t", 9)), api.ErrBig},
		{of9(3, topic("a", 1)), api.ErrBig},
		{of9(3, topic("-", 1)), api.ErrBig},
		{slices.Repeat(names("t"), 9), api.ErrBig},
		// Names.
		{names(""), api.ErrArg},
		{names("T"), api.ErrArg},
		{names("", "a"), api.ErrArg},
		{names("a", "b_"), api.ErrArg},
		{of(0, topic("", 1)), api.ErrArg},
		{of(7, topic("zzzzzzzzzzzzzzzzz", 1)), api.ErrArg},
		{of(7, topic("\xff", 1)), api.ErrArg},
		{of(4, topic("b c", 1)), api.ErrArg},
		// Numbers.
		{[]api.Topic{topic("t", 0)}, api.ErrArg},
		{[]api.Topic{topic("t", 9)}, api.ErrArg},
		{[]api.Topic{topic("t", -1)}, api.ErrArg},
		{[]api.Topic{topic("t", math.MinInt)}, api.ErrArg},
		{[]api.Topic{topic("t", math.MaxInt)}, api.ErrArg},
		{[]api.Topic{topic("t", 1<<32+1)}, api.ErrArg},
		{of(0, topic("-", 0)), api.ErrArg},
		{of(4, topic("t", 9)), api.ErrArg},
		{of(7, topic("zzzzzzzzzzzzzzzz", 0)), api.ErrArg},
		{of(7, topic("zzzzzzzzzzzzzzzz", 9)), api.ErrArg},
		// Out of order.
		{names("b", "a"), api.ErrArg},
		{names("aa", "a"), api.ErrArg},
		{names("t2", "t10"), api.ErrArg},
		{names("a", "9"), api.ErrArg},
		{names("0", "-"), api.ErrArg},
		{names("a", "c", "b"), api.ErrArg},
		{names("b", "a", "c"), api.ErrArg},
		{names("a", "b", "c", "a"), api.ErrArg},
		{eight(), api.ErrArg},
		{of(7, topic("t10", 1)), api.ErrArg},
		// A name twice.
		{names("a", "a"), api.ErrArg},
		{names("a", "b", "b"), api.ErrArg},
		{names("a", "a", "b"), api.ErrArg},
		{names("a", "b", "a"), api.ErrArg},
		{[]api.Topic{topic("a", 1), topic("a", 2)}, api.ErrArg},
		{of(7, topic("t2", 1)), api.ErrArg},
		// Two faults at once.
		{[]api.Topic{topic("", 0)}, api.ErrArg},
		{[]api.Topic{topic("b", 0), topic("a", 9)}, api.ErrArg},
		{[]api.Topic{topic("a", 9), topic("a", 9)}, api.ErrArg},
		{[]api.Topic{topic("b", 1), topic("", 0)}, api.ErrArg},
	} {
		if c, e := Load(x.l); c != nil || e != x.e {
			t.Errorf("%d: Load(%v): %v, %d, want %d", i, x.l, c, e, x.e)
		}
	}
}

// P9.4

// All that a catalog does, at random, is what the plain one does.
func TestAnythingInAnyOrder(t *testing.T) {
	names := []string{"a", "b", "aa", "a-", "0", "t1", "t10", "t2", "-", "z", "zz", "topic", "", "A", "0123456789abcdef", "0123456789abcdefg"}
	for seed := range 100 {
		r := chance(seed)
		c, p := New(), plain{}
		for step := range 200 {
			name, n := names[r.below(len(names))], r.below(11)-1
			var e, want api.Errno
			switch r.below(8) {
			case 0:
				e, want = c.Drop(name), p.drop(name)
			case 1, 2:
				e, want = c.Grow(name, n), p.grow(name, n)
			case 3:
				c = mustLoad(t, c.List())
			case 4:
				c = c.Copy()
			default:
				e, want = c.Make(name, n), p.make(name, n)
			}
			if e != want {
				t.Fatalf("%d, %d: of %q and %d: %d, want %d", seed, step, name, n, e, want)
			}
			tells(t, c, p)
			sums(t, c)
			if step%20 == 0 {
				match(t, c, p)
			}
		}
	}
}

// sums tells where Parts of all names are not as many as all topics have together.
func sums(t *testing.T, c *Catalog) {
	t.Helper()
	var names []string
	sum, ns := 0, 0
	for _, x := range c.List() {
		names = append(names, x.Name)
		sum += x.N
		ns += c.N(x.Name)
	}
	parts := c.Parts(names)
	if len(parts) != sum || sum != ns {
		t.Fatalf("%d parts, of %d; N says %d", len(parts), sum, ns)
	}
	for i, p := range parts {
		if !c.Has(p) || slices.Contains(parts[:i], p) {
			t.Fatalf("part %v is not there, or twice", p)
		}
	}
}

func TestWhatIsToldIsLoadedAsItIs(t *testing.T) {
	for n := range 9 {
		c, p := made(t, eight()[:n]...)
		again := mustLoad(t, c.List())
		match(t, again, *p)
		sums(t, again)
		q := p.copy()
		change(t, again, &q)
		match(t, again, q)
		sums(t, again)
		match(t, c, *p)
	}
}

// R4

// roomy is a list with room behind it, and the whole of it.
func roomy[T any](l []T, behind T) ([]T, []T) {
	whole := append(slices.Clone(l), behind, behind, behind)
	return whole[:len(l)], whole
}

// spoil fills a list, and the room behind it.
func spoil[T any](l []T, by T) {
	l = l[:cap(l)]
	for i := range l {
		l[i] = by
	}
}

func TestWhatIsHandedInStays(t *testing.T) {
	for n := range 9 {
		l, wholeL := roomy(rising()[:n], topic("room", 8))
		names, wholeNames := roomy([]string{"t", "no-such", "a", "t", "t2", "-", "a"}, "aa")
		wasL, wasNames := slices.Clone(wholeL), slices.Clone(wholeNames)
		stays := func(when string) {
			t.Helper()
			if !slices.Equal(wholeL, wasL) || !slices.Equal(wholeNames, wasNames) {
				t.Errorf("%s: %v, %q", when, wholeL, wholeNames)
			}
		}
		c, p := mustLoad(t, l), plain(slices.Clone(l))
		stays("Load")
		got, want := c.Parts(names), p.parts(names)
		stays("Parts")
		change(t, c, &p)
		stays("what came then")
		// It is not kept either.
		spoil(l, topic("spoilt", 1))
		spoil(names, "spoilt")
		match(t, c, p)
		if !slices.Equal(got, want) {
			t.Errorf("Parts told %v, want %v", got, want)
		}
	}
}

// Not even a list is kept that has nothing but room, or what was refused.
func TestLoadKeepsNothing(t *testing.T) {
	room := make([]api.Topic, 0, 32)
	c, p := mustLoad(t, room), plain{}
	mustMake(t, c, &p, "t", 2)
	if l := room[:1]; l[0] != (api.Topic{}) {
		t.Errorf("the room has %v", l)
	}
	spoil(room, topic("x", 9))
	match(t, c, p)
	bad, whole := roomy([]api.Topic{topic("b", 1), topic("a", 1)}, topic("c", 1))
	was := slices.Clone(whole)
	Load(bad)
	if !slices.Equal(whole, was) {
		t.Errorf("Load made it into %v", whole)
	}
}

func TestWhatIsToldIsItsOwners(t *testing.T) {
	for i := range 4 {
		c, p := made(t, eight()...)
		if i%2 == 1 {
			c = mustLoad(t, c.List())
		}
		d := c
		if i > 1 {
			d = c.Copy()
		}
		names := p.all()
		// Spoilt, each one of two that were told.
		for range 2 {
			spoil(d.List(), topic("spoilt", 1))
			spoil(d.Parts(names), at("spoilt", 9))
			match(t, c, *p)
			match(t, d, *p)
		}
		first, second := d.Parts(names), d.Parts(names)
		list, again := d.List(), d.List()
		spoil(second, at("spoilt", 9))
		spoil(again, topic("spoilt", 1))
		want, wantList := p.parts(names), p.list()
		if !slices.Equal(first, want) || !slices.Equal(list, wantList) {
			t.Errorf("%d: %v, %v", i, first, list)
		}
		// What was told stays as it is, whatever comes then.
		change(t, d, p)
		if !slices.Equal(first, want) || !slices.Equal(list, wantList) {
			t.Errorf("%d: then %v, %v", i, first, list)
		}
		match(t, d, *p)
	}
}

// heldBytes is how much memory is in use.
func heldBytes() int64 {
	runtime.GC()
	var m runtime.MemStats
	runtime.ReadMemStats(&m)
	return int64(m.HeapAlloc)
}

// Names that are pieces of great texts are handed in, and lists with room: they are not kept, neither in a catalog nor in what it tells.
func TestGreatThingsAreNotKept(t *testing.T) {
	const great, n = 1 << 20, 20
	piece := func(i int) string { return strings.Repeat("x", great)[i : i+9] }
	for name, one := range map[string]func(i int) any{
		"Load": func(i int) any { c, _ := Load([]api.Topic{topic(piece(i), 1)}); return c },
		"room": func(int) any { c, _ := Load(make([]api.Topic, 0, great/24)); return c },
		"Make": func(i int) any { c := New(); c.Make(piece(i), 1); return c },
		"Make again": func(i int) any {
			c := New()
			c.Make(piece(i), 1)
			c.Make(piece(i), 1)
			return c
		},
		"Grow": func(i int) any { c := New(); c.Make(piece(i), 1); c.Grow(piece(i), 2); return c },
		"Drop": func(i int) any { c := New(); c.Make(piece(i), 1); c.Drop(piece(i)); return c },
		"Parts": func(i int) any {
			c := New()
			c.Make(piece(i), 1)
			return c.Parts([]string{piece(i)})
		},
	} {
		before := heldBytes()
		var kept []any
		for i := range n {
			kept = append(kept, one(i))
		}
		if more := heldBytes() - before; more > great {
			t.Errorf("%s: %d bytes are kept", name, more)
		}
		runtime.KeepAlive(kept)
	}
}

// Topics that went are not kept.
func TestWhatWentIsNotKept(t *testing.T) {
	c, p := made(t, topic("t", 2))
	before := heldBytes()
	for i := range 100000 {
		name := "topic-" + strconv.Itoa(i)
		if e := c.Make(name, 1); e != api.OK {
			t.Fatalf("%d: Make: %d", i, e)
		}
		if e := c.Drop(name); e != api.OK {
			t.Fatalf("%d: Drop: %d", i, e)
		}
	}
	if more := heldBytes() - before; more > 100000 {
		t.Errorf("%d bytes are kept of many topics", more)
	}
	match(t, c, *p)
}
