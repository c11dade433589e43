package offsets

import (
	"math"
	"runtime"
	"slices"
	"strconv"
	"strings"
	"testing"

	"stagecoach/api"
)

const most = 1 << 40 // the greatest offset, and partition's number

// plain is a table as the chapter's words say it: a list of marks in the order in which they came, and each answer made by going over all of it.
type plain struct {
	l []api.Mark
}

// isName is of 1 to 16 bytes, each a to z, 0 to 9, or -.
func isName(s string) bool {
	return 1 <= len(s) && len(s) <= 16 && strings.Trim(s, "abcdefghijklmnopqrstuvwxyz0123456789-") == ""
}

func mayBe(m api.Mark) bool {
	return isName(m.Group) && isName(m.Part.Topic) && m.Part.N >= 0 && m.Part.N <= most && m.Offset >= 0 && m.Offset <= most
}

// less holds texts against each other byte by byte: below 0, if a is the lesser one.
func less(a, b string) int {
	for i := 0; i < len(a) && i < len(b); i++ {
		if a[i] != b[i] {
			return int(a[i]) - int(b[i])
		}
	}
	return len(a) - len(b)
}

// ahead tells whether a stands ahead of b.
func ahead(a, b api.Mark) bool {
	if n := less(a.Group, b.Group); n != 0 {
		return n < 0
	}
	if n := less(a.Part.Topic, b.Part.Topic); n != 0 {
		return n < 0
	}
	return a.Part.N < b.Part.N
}

// place is where a group's mark of a partition is; -1, if there is none.
func (p *plain) place(group string, part api.Part) int {
	for i, m := range p.l {
		if m.Group == group && m.Part.Topic == part.Topic && m.Part.N == part.N {
			return i
		}
	}
	return -1
}

func (p *plain) put(m api.Mark) api.Errno {
	i := p.place(m.Group, m.Part)
	switch {
	case !mayBe(m):
		return 1
	case i < 0:
		p.l = append(p.l, m)
	case p.l[i].Offset > m.Offset:
		return 120
	default:
		p.l[i] = m
	}
	return 0
}

func (p *plain) get(group string, part api.Part) (int, bool) {
	if i := p.place(group, part); i >= 0 {
		return p.l[i].Offset, true
	}
	return 0, false
}

func (p *plain) raise(part api.Part, least int) int {
	n := 0
	for i, m := range p.l {
		if m.Part == part && m.Offset < least && least <= most {
			p.l[i].Offset = least
			n++
		}
	}
	return n
}

func (p *plain) drop(group string) int {
	var stay []api.Mark
	for _, m := range p.l {
		if m.Group != group {
			stay = append(stay, m)
		}
	}
	n := len(p.l) - len(stay)
	p.l = stay
	return n
}

// list are all of them, each one put in its place.
func (p *plain) list() []api.Mark {
	var l []api.Mark
	for _, m := range p.l {
		at := 0
		for at < len(l) && ahead(l[at], m) {
			at++
		}
		l = slices.Insert(l, at, m)
	}
	return l
}

func (p *plain) behind(group string, part api.Part, end int) int {
	read, _ := p.get(group, part)
	if end < 0 || end > most || end < read {
		return 0
	}
	return end - read
}

func (p *plain) copy() *plain {
	return &plain{slices.Clone(p.l)}
}

func at(topic string, n int) api.Part {
	return api.Part{Topic: topic, N: n}
}

func mark(group, topic string, n, offset int) api.Mark {
	return api.Mark{Group: group, Part: at(topic, n), Offset: offset}
}

// numbers are at the edges.
func numbers() []int {
	return []int{math.MinInt, -most - 1, -most, -1 << 32, -1, 0, 1, 2, 1 << 32, most - 1, most, most + 1, 1 << 41, math.MaxInt - 1, math.MaxInt}
}

// badNames are no names.
func badNames() []string {
	return []string{
		"", "G", "gG", "g n", " g", "g ", "_", "g_", "g.", "`", "{", "/", ":", ",", ".", "g\x00", "\x00", "g\n", "\x7f", "\x80", "\xff", "g\xff",
		"\u00e9", "\uff41", "\u0430", "\ufffd", "\u0661", "\u2010", "0123456789abcdefg", "0123456789abcde\u00e9", strings.Repeat("g", 1000),
	}
}

// near are names that are like others, and others that are none.
func near(names ...string) []string {
	l := []string{"", "no-such", "\xff", strings.Repeat("g", 17)}
	for _, name := range names {
		l = append(l, name, name+"-", name[1:], name[:len(name)-1], strings.ToUpper(name), name+"\x00")
	}
	return l
}

// asked are groups, and partitions, near to those that have marks.
func (p *plain) asked() ([]string, []api.Part) {
	var groups, topics []string
	ns := []int{math.MinInt, -1, 0, 1, most, math.MaxInt}
	for _, m := range p.l {
		if !slices.Contains(groups, m.Group) {
			groups = append(groups, m.Group)
		}
		if !slices.Contains(topics, m.Part.Topic) {
			topics = append(topics, m.Part.Topic)
		}
		if !slices.Contains(ns, m.Part.N) {
			ns = append(ns, m.Part.N)
		}
	}
	var parts []api.Part
	for _, topic := range near(topics...) {
		for _, n := range ns {
			parts = append(parts, at(topic, n))
		}
	}
	return near(groups...), parts
}

// tells tells where a table's marks and its plain one's differ.
func tells(t *testing.T, k *Table, p *plain) {
	t.Helper()
	if got, want := k.List(), p.list(); !slices.Equal(got, want) {
		t.Fatalf("List: %v, want %v", got, want)
	}
}

// match tells where a table and its plain one differ, in all that asking tells.
func match(t *testing.T, k *Table, p *plain) {
	t.Helper()
	tells(t, k, p)
	groups, parts := p.asked()
	for _, group := range groups {
		for _, part := range parts {
			got, is := k.Get(group, part)
			want, wantIs := p.get(group, part)
			if got != want || is != wantIs {
				t.Fatalf("Get(%q, %v): %d, %v, want %d, %v", group, part, got, is, want, wantIs)
			}
			for _, end := range []int{-1, want - 1, want, want + 1, want + 7, most, most + 1} {
				if got, want := k.Behind(group, part, end), p.behind(group, part, end); got != want {
					t.Fatalf("Behind(%q, %v, %d): %d, want %d", group, part, end, got, want)
				}
			}
		}
	}
	// Asking has changed nothing.
	tells(t, k, p)
}

func mustLoad(t *testing.T, l ...api.Mark) (*Table, *plain) {
	t.Helper()
	k, e := Load(l)
	if e != api.OK || k == nil {
		t.Fatalf("Load(%v): %v, %d", l, k, e)
	}
	return k, &plain{slices.Clone(l)}
}

func mustPut(t *testing.T, k *Table, p *plain, l ...api.Mark) {
	t.Helper()
	for _, m := range l {
		if e, want := k.Put(m), p.put(m); e != api.OK || want != api.OK {
			t.Fatalf("Put(%v): %d, the plain one says %d", m, e, want)
		}
	}
}

// crowd are marks of three groups, in order.
func crowd() []api.Mark {
	return []api.Mark{
		mark("g", "a", 0, 5), mark("g", "a", 1, 0), mark("g", "b", 0, 9), mark("g", "b", 10, most),
		mark("g0", "a", 0, 6),
		mark("h", "a", 0, 4), mark("h", "a", 2, 7), mark("h", "b", 0, 9), mark("h", "b", 9, 1),
	}
}

// chance is a row of numbers, always the same one, that look like chance.
type chance uint64

func (c *chance) below(n int) int {
	*c = *c*6364136223846793005 + 1442695040888963407
	return int(uint64(*c>>33) % uint64(n))
}

// shuffled are marks in another order.
func shuffled(c *chance, l []api.Mark) []api.Mark {
	l = slices.Clone(l)
	for i := range l {
		j := i + c.below(len(l)-i)
		l[i], l[j] = l[j], l[i]
	}
	return l
}

// The chapter's example.

func TestExample(t *testing.T) {
	k, part := New(), at("a", 0)
	if e := k.Put(mark("g", "a", 0, 5)); e != api.OK {
		t.Errorf("Put of 5: %d", e)
	}
	if e := k.Put(mark("g", "a", 0, 4)); e != api.ErrOffsetsBack {
		t.Errorf("Put of 4: %d", e)
	}
	if n := k.Raise(part, 7); n != 1 {
		t.Errorf("Raise to 7: %d", n)
	}
	if offset, is := k.Get("g", part); offset != 7 || !is {
		t.Errorf("Get: %d, %v", offset, is)
	}
	if n := k.Behind("g", part, 10); n != 3 {
		t.Errorf("Behind 10: %d", n)
	}
}

func TestNumbersOfApi(t *testing.T) {
	if api.ErrArg != 1 || api.ErrOffsetsBack != 120 || api.MaxOffset != most {
		t.Error("errors and limits are not the chapter's")
	}
}

// P12.1

func TestNew(t *testing.T) {
	k, other := New(), New()
	match(t, k, &plain{})
	if offset, is := k.Get("g", at("a", 0)); offset != 0 || is {
		t.Errorf("Get: %d, %v", offset, is)
	}
	if n := k.Raise(at("a", 0), 7); n != 0 {
		t.Errorf("Raise: %d", n)
	}
	if n := k.Drop("g"); n != 0 {
		t.Errorf("Drop: %d", n)
	}
	if l := k.List(); len(l) != 0 {
		t.Errorf("List: %v", l)
	}
	// One does not hear of another one.
	p := &plain{}
	mustPut(t, k, p, mark("g", "a", 0, 5))
	match(t, k, p)
	match(t, other, &plain{})
}

// marksThatMayBe are at the edges.
func marksThatMayBe() []api.Mark {
	var l []api.Mark
	for _, name := range []string{"a", "z", "0", "9", "-", "--", "a0-z9", "0123456789abcdef", "zzzzzzzzzzzzzzzz", "----------------"} {
		l = append(l, mark(name, "a", 0, 5), mark("g", name, 0, 5), mark(name, name, 0, 5))
	}
	for _, n := range numbers() {
		if n >= 0 && n <= most {
			l = append(l, mark("g", "a", n, 5), mark("g", "a", 0, n), mark("g", "a", n, n), mark("g", "a", most-n, n))
		}
	}
	return l
}

// marksThatMayNot are each wrong in one thing, the last ones in several.
func marksThatMayNot() []api.Mark {
	var l []api.Mark
	for _, name := range badNames() {
		l = append(l, mark(name, "a", 0, 5), mark("g", name, 0, 5), mark(name, name, 0, 5))
	}
	for _, n := range numbers() {
		if n < 0 || n > most {
			l = append(l, mark("g", "a", n, 5), mark("g", "a", 0, n), mark("g", "a", n, n))
		}
	}
	return append(l, api.Mark{}, api.Mark{Group: "g"}, api.Mark{Part: at("a", 0)}, mark("G", "", -1, -1), mark("g", "A", 0, most+1), mark("", "a", most+1, 0))
}

// What may be is put, and loaded.
func TestAMarkMayBe(t *testing.T) {
	for i, m := range marksThatMayBe() {
		if !mayBe(m) {
			t.Fatalf("%d: the plain one says no", i)
		}
		k, p := New(), &plain{}
		mustPut(t, k, p, m)
		match(t, k, p)
		if l := k.List(); len(l) != 1 || l[0] != m {
			t.Errorf("%d: List: %v, want %v", i, l, m)
		}
		k, p = mustLoad(t, m)
		match(t, k, p)
	}
}

// What may not is refused, whatever is there, and by Load too.
func TestAMarkMayNot(t *testing.T) {
	for i, m := range marksThatMayNot() {
		if mayBe(m) {
			t.Fatalf("%d: the plain one says yes", i)
		}
		for _, l := range [][]api.Mark{nil, {mark("g", "a", 0, 5)}, crowd()} {
			k, p := mustLoad(t, l...)
			// Twice, as the first time changes nothing.
			for range 2 {
				if e := k.Put(m); e != api.ErrArg {
					t.Errorf("%d: Put(%v): %d", i, m, e)
				}
				tells(t, k, p)
			}
			if offset, is := k.Get(m.Group, m.Part); is != (p.place(m.Group, m.Part) >= 0) {
				t.Errorf("%d: Get: %d, %v", i, offset, is)
			}
		}
		if k, e := Load([]api.Mark{m}); k != nil || e != api.ErrArg {
			t.Errorf("%d: Load of %v: %v, %d", i, m, k, e)
		}
	}
}

func TestPutOfNewOnes(t *testing.T) {
	k, p := New(), &plain{}
	// Not in order.
	l := crowd()
	slices.Reverse(l)
	l[0], l[4] = l[4], l[0]
	for _, m := range l {
		mustPut(t, k, p, m)
		match(t, k, p)
	}
	if got := k.List(); !slices.Equal(got, crowd()) {
		t.Errorf("List: %v", got)
	}
}

// Of one that is there: an offset below it is refused, the same one and one above it take its place; nobody else's mark changes.
func TestPutOfOneThatIsThere(t *testing.T) {
	for i, x := range []struct {
		was, then int
		e         api.Errno
	}{
		{5, 4, api.ErrOffsetsBack},
		{5, 0, api.ErrOffsetsBack},
		{5, 5, api.OK},
		{5, 6, api.OK},
		{5, most, api.OK},
		{0, 0, api.OK},
		{0, 1, api.OK},
		{1, 0, api.ErrOffsetsBack},
		{0, most, api.OK},
		{1 << 32, 1<<32 - 1, api.ErrOffsetsBack},
		{1 << 32, 1, api.ErrOffsetsBack},
		{1 << 32, 1<<32 + 1, api.OK},
		{most, most, api.OK},
		{most, most - 1, api.ErrOffsetsBack},
		{most, 0, api.ErrOffsetsBack},
		{most - 1, most, api.OK},
	} {
		// Others with the same group, the same topic, the same number.
		k, p := mustLoad(t, mark("f", "b", 3, 3), mark("g", "a", 3, 3), mark("g", "b", 2, 3), mark("g", "b", 3, x.was), mark("g", "b", 4, 3), mark("g", "c", 3, 3), mark("h", "b", 3, 3))
		was := k.List()
		m := mark("g", "b", 3, x.then)
		if want := p.put(m); want != x.e {
			t.Fatalf("%d: the plain one says %d", i, want)
		}
		// Twice, as the second time there is nothing to change.
		for range 2 {
			if e := k.Put(m); e != x.e {
				t.Errorf("%d: Put(%v): %d, want %d", i, m, e, x.e)
			}
			match(t, k, p)
		}
		if x.e == api.OK {
			was[3].Offset = x.then
		}
		if got := k.List(); !slices.Equal(got, was) {
			t.Errorf("%d: List: %v, want %v", i, got, was)
		}
	}
}

// Where both errors fit, that the mark may not be is told.
func TestPutOfSeveralFaults(t *testing.T) {
	for _, was := range []int{0, 1, 5, most} {
		k, p := mustLoad(t, mark("g", "a", 0, was))
		for _, offset := range []int{-1, -most, math.MinInt, most + 1, math.MaxInt} {
			if e := k.Put(mark("g", "a", 0, offset)); e != api.ErrArg {
				t.Errorf("behind %d: Put of %d: %d", was, offset, e)
			}
			match(t, k, p)
		}
	}
}

// A mark that was raised is not put back either; one of a group that was dropped is.
func TestPutBehindOthers(t *testing.T) {
	k, p := mustLoad(t, mark("g", "a", 0, 5))
	k.Raise(at("a", 0), 8)
	p.raise(at("a", 0), 8)
	for offset, want := range map[int]api.Errno{5: api.ErrOffsetsBack, 7: api.ErrOffsetsBack, 8: api.OK} {
		if e := k.Put(mark("g", "a", 0, offset)); e != want {
			t.Errorf("Put of %d: %d, want %d", offset, e, want)
		}
		match(t, k, p)
	}
	k.Drop("g")
	p.drop("g")
	mustPut(t, k, p, mark("g", "a", 0, 0))
	match(t, k, p)
}

func TestGet(t *testing.T) {
	k, p := mustLoad(t, mark("g", "a", 0, 5), mark("g", "a", 2, 0), mark("g", "b", 1, most), mark("h", "a", 0, 7), mark("h", "c", 0, 8))
	for i, x := range []struct {
		group  string
		part   api.Part
		offset int
		is     bool
	}{
		{"g", at("a", 0), 5, true},
		{"g", at("a", 2), 0, true},
		{"g", at("b", 1), most, true},
		{"h", at("a", 0), 7, true},
		{"h", at("c", 0), 8, true},
		// Another number.
		{"g", at("a", 1), 0, false},
		{"g", at("b", 0), 0, false},
		{"g", at("a", -1), 0, false},
		{"g", at("a", 1<<32), 0, false},
		{"g", at("a", math.MaxInt), 0, false},
		{"g", at("a", math.MinInt), 0, false},
		// Another topic.
		{"g", at("c", 0), 0, false},
		{"h", at("b", 0), 0, false},
		{"g", at("", 0), 0, false},
		{"g", at("A", 0), 0, false},
		{"g", at("aa", 0), 0, false},
		{"g", at("g", 0), 0, false},
		// Another group.
		{"h", at("a", 2), 0, false},
		{"h", at("b", 1), 0, false},
		{"g", at("c", 0), 0, false},
		{"f", at("a", 0), 0, false},
		{"", at("a", 0), 0, false},
		{"G", at("a", 0), 0, false},
		{"a", at("g", 0), 0, false},
		{"ga", at("", 0), 0, false},
		{"", api.Part{}, 0, false},
	} {
		for range 2 {
			if offset, is := k.Get(x.group, x.part); offset != x.offset || is != x.is {
				t.Errorf("%d: Get(%q, %v): %d, %v, want %d, %v", i, x.group, x.part, offset, is, x.offset, x.is)
			}
		}
	}
	match(t, k, p)
}

// P12.2

func TestRaise(t *testing.T) {
	for i, x := range []struct {
		part  api.Part
		least int
		n     int
		then  []int // of g, h, i and j, of partition a 0
	}{
		// Below it, at it, above it.
		{at("a", 0), 5, 1, []int{5, 5, 6, most}},
		{at("a", 0), 6, 2, []int{6, 6, 6, most}},
		{at("a", 0), 7, 3, []int{7, 7, 7, most}},
		{at("a", 0), 4, 0, []int{4, 5, 6, most}},
		{at("a", 0), 1, 0, []int{4, 5, 6, most}},
		// At the edges.
		{at("a", 0), 0, 0, []int{4, 5, 6, most}},
		{at("a", 0), most - 1, 3, []int{most - 1, most - 1, most - 1, most}},
		{at("a", 0), most, 3, []int{most, most, most, most}},
		{at("a", 0), most + 1, 0, []int{4, 5, 6, most}},
		{at("a", 0), 1 << 41, 0, []int{4, 5, 6, most}},
		{at("a", 0), math.MaxInt, 0, []int{4, 5, 6, most}},
		{at("a", 0), -1, 0, []int{4, 5, 6, most}},
		{at("a", 0), -most, 0, []int{4, 5, 6, most}},
		{at("a", 0), math.MinInt, 0, []int{4, 5, 6, most}},
		// Another partition: of g and h there is one with marks, 1 and 2.
		{at("a", 1), 2, 1, []int{4, 5, 6, most}},
		{at("b", 0), 3, 2, []int{4, 5, 6, most}},
		{at("a", 2), 7, 0, []int{4, 5, 6, most}},
		{at("c", 0), 7, 0, []int{4, 5, 6, most}},
		{at("", 0), 7, 0, []int{4, 5, 6, most}},
		{at("A", 0), 7, 0, []int{4, 5, 6, most}},
		{at("a", -1), 7, 0, []int{4, 5, 6, most}},
		{at("a", 1<<32), 7, 0, []int{4, 5, 6, most}},
		{at("g", 0), 7, 0, []int{4, 5, 6, most}},
	} {
		k, p := mustLoad(t, mark("g", "a", 0, 4), mark("g", "a", 1, 1), mark("g", "b", 0, 1), mark("h", "a", 0, 5), mark("h", "a", 1, 2), mark("h", "b", 0, 2), mark("i", "a", 0, 6), mark("j", "a", 0, most))
		if want := p.raise(x.part, x.least); want != x.n {
			t.Fatalf("%d: the plain one says %d", i, want)
		}
		if n := k.Raise(x.part, x.least); n != x.n {
			t.Errorf("%d: Raise(%v, %d): %d, want %d", i, x.part, x.least, n, x.n)
		}
		match(t, k, p)
		for j, group := range []string{"g", "h", "i", "j"} {
			if offset, is := k.Get(group, at("a", 0)); offset != x.then[j] || !is {
				t.Errorf("%d: of %s: %d, %v, want %d", i, group, offset, is, x.then[j])
			}
		}
		// The same again finds none below it.
		if n := k.Raise(x.part, x.least); n != 0 {
			t.Errorf("%d: Raise again: %d", i, n)
		}
		match(t, k, p)
	}
}

// Marks that are 0 are raised too, and no mark is made where there is none.
func TestRaiseOfZeros(t *testing.T) {
	k, p := mustLoad(t, mark("g", "a", 0, 0), mark("h", "a", 0, 0), mark("h", "a", 1, 0))
	for _, least := range []int{0, 1, 3} {
		n, want := k.Raise(at("a", 0), least), p.raise(at("a", 0), least)
		if n != want || n != 2*min(least, 1) {
			t.Errorf("Raise to %d: %d", least, n)
		}
		match(t, k, p)
	}
	if _, is := k.Get("i", at("a", 0)); is || len(k.List()) != 3 {
		t.Errorf("List: %v", k.List())
	}
}

// Many groups are raised at once, each once.
func TestRaiseOfMany(t *testing.T) {
	k, p := New(), &plain{}
	for i := range 500 {
		mustPut(t, k, p, mark("g"+strconv.Itoa(i), "t", i%2, i))
	}
	for _, x := range []struct{ part, least, n int }{{0, 100, 50}, {0, 100, 0}, {1, 100, 50}, {1, 301, 150}, {0, most, 250}, {1, most, 250}} {
		n, want := k.Raise(at("t", x.part), x.least), p.raise(at("t", x.part), x.least)
		if n != want || n != x.n {
			t.Errorf("Raise of %d to %d: %d, want %d", x.part, x.least, n, x.n)
		}
		tells(t, k, p)
	}
}

func TestDrop(t *testing.T) {
	for group, want := range map[string]int{
		"g": 4, "g0": 1, "h": 4,
		// Of none.
		"i": 0, "": 0, "G": 0, "a": 0, "g1": 0, "\xff": 0, strings.Repeat("g", 17): 0,
	} {
		k, p := mustLoad(t, crowd()...)
		others := slices.DeleteFunc(crowd(), func(m api.Mark) bool { return m.Group == group })
		if n, plainN := k.Drop(group), p.drop(group); n != want || plainN != want {
			t.Errorf("Drop(%q): %d, the plain one says %d, want %d", group, n, plainN, want)
		}
		match(t, k, p)
		if got := k.List(); !slices.Equal(got, others) {
			t.Errorf("Drop(%q): then %v", group, got)
		}
		// The same again finds none.
		if n := k.Drop(group); n != 0 {
			t.Errorf("Drop(%q) again: %d", group, n)
		}
		match(t, k, p)
		// It may begin anew, from wherever it likes.
		if isName(group) {
			mustPut(t, k, p, mark(group, "a", 0, 0), mark(group, "b", 10, 3))
			match(t, k, p)
			if n := k.Drop(group); n != 2 {
				t.Errorf("Drop(%q) of new ones: %d", group, n)
			}
		}
	}
}

func TestDropOfAll(t *testing.T) {
	k, p := mustLoad(t, crowd()...)
	for _, group := range []string{"h", "g", "g0"} {
		if n, want := k.Drop(group), p.drop(group); n != want {
			t.Errorf("Drop(%q): %d, want %d", group, n, want)
		}
		match(t, k, p)
	}
	if l := k.List(); len(l) != 0 {
		t.Errorf("List: %v", l)
	}
	mustPut(t, k, p, crowd()...)
	match(t, k, p)
}

// P12.3

// inOrder are marks in the order in which they are told: by Group, then by Topic, both byte by byte, then by N, as a number.
func inOrder() []api.Mark {
	names := []string{"-", "--", "-0", "-a", "0", "00", "1", "10", "2", "9", "a", "a-", "a0", "aa", "b", "t", "t1", "t10", "t2", "tt", "z", "zzzzzzzzzzzzzzzz"}
	numbers := []int{0, 1, 2, 9, 10, 11, 99, 100, 1 << 32, most}
	var l []api.Mark
	for i, group := range names {
		for j, topic := range names {
			// Offsets fall where all else rises.
			for n := range numbers {
				l = append(l, mark(group, topic, numbers[n], most-i-j-n))
			}
		}
	}
	return l
}

func TestListStandsInOrder(t *testing.T) {
	want := inOrder()
	for seed := range 5 {
		c := chance(seed)
		k := New()
		for _, m := range shuffled(&c, want) {
			if e := k.Put(m); e != api.OK {
				t.Fatalf("Put(%v): %d", m, e)
			}
		}
		// The same again, however the map is gone through.
		for range 3 {
			if got := k.List(); !slices.Equal(got, want) {
				t.Fatalf("List: %v", got)
			}
		}
	}
}

func TestListOfFew(t *testing.T) {
	for i, want := range [][]api.Mark{
		nil,
		{mark("g", "a", 0, 5)},
		// Group goes ahead of Topic, Topic ahead of N.
		{mark("g", "z", 9, 1), mark("h", "a", 0, 5)},
		{mark("g", "a", 9, 1), mark("g", "b", 0, 5)},
		{mark("g", "a", 0, 9), mark("g", "a", 1, 5)},
		// Byte by byte, and as a number.
		{mark("g10", "a", 0, 5), mark("g2", "a", 0, 5)},
		{mark("g", "t10", 0, 5), mark("g", "t2", 0, 5)},
		{mark("g", "t", 2, 5), mark("g", "t", 10, 5)},
		{mark("g", "z", 0, 5), mark("g-", "a", 0, 5), mark("g0", "a", 0, 5), mark("ga", "a", 0, 5)},
	} {
		back := slices.Clone(want)
		slices.Reverse(back)
		for _, l := range [][]api.Mark{want, back} {
			k, p := New(), &plain{}
			mustPut(t, k, p, l...)
			if got := k.List(); !slices.Equal(got, want) {
				t.Errorf("%d: List: %v, want %v", i, got, want)
			}
			match(t, k, p)
		}
	}
}

func TestBehind(t *testing.T) {
	k, p := mustLoad(t, mark("g", "a", 0, 5), mark("g", "a", 1, 0), mark("g", "a", 2, most))
	for i, x := range []struct {
		group string
		part  api.Part
		end   int
		n     int
	}{
		// An end below the mark, at it, above it.
		{"g", at("a", 0), 0, 0},
		{"g", at("a", 0), 4, 0},
		{"g", at("a", 0), 5, 0},
		{"g", at("a", 0), 6, 1},
		{"g", at("a", 0), 10, 5},
		{"g", at("a", 1), 0, 0},
		{"g", at("a", 1), 1, 1},
		{"g", at("a", 2), most - 1, 0},
		{"g", at("a", 2), most, 0},
		// At the edges.
		{"g", at("a", 0), most, most - 5},
		{"g", at("a", 1), most, most},
		{"g", at("a", 0), most + 1, 0},
		{"g", at("a", 1), most + 1, 0},
		{"g", at("a", 2), most + 1, 0},
		{"g", at("a", 0), math.MaxInt, 0},
		{"g", at("a", 0), -1, 0},
		{"g", at("a", 1), -1, 0},
		{"g", at("a", 2), -1, 0},
		{"g", at("a", 2), math.MinInt, 0},
		// There is none.
		{"g", at("a", 3), 7, 7},
		{"g", at("b", 0), 7, 7},
		{"h", at("a", 0), 7, 7},
		{"h", at("a", 2), 7, 7},
		{"h", at("a", 0), 0, 0},
		{"h", at("a", 0), most, most},
		{"h", at("a", 0), most + 1, 0},
		{"h", at("a", 0), math.MaxInt, 0},
		{"h", at("a", 0), -1, 0},
		{"h", at("a", 0), math.MinInt, 0},
		{"", at("", 0), 7, 7},
		{"G", at("A", -1), 7, 7},
	} {
		for range 2 {
			if n := k.Behind(x.group, x.part, x.end); n != x.n {
				t.Errorf("%d: Behind(%q, %v, %d): %d, want %d", i, x.group, x.part, x.end, n, x.n)
			}
		}
	}
	match(t, k, p)
}

// steps are what changes a table.
func steps() map[string]func(k *Table, p *plain) {
	return map[string]func(k *Table, p *plain){
		"nothing":  func(*Table, *plain) {},
		"a new":    func(k *Table, p *plain) { m := mark("i", "a", 0, 3); k.Put(m); p.put(m) },
		"a later":  func(k *Table, p *plain) { m := mark("g", "a", 0, 6); k.Put(m); p.put(m) },
		"the same": func(k *Table, p *plain) { m := mark("g", "a", 0, 5); k.Put(m); p.put(m) },
		"back":     func(k *Table, p *plain) { m := mark("g", "a", 0, 4); k.Put(m); p.put(m) },
		"raised":   func(k *Table, p *plain) { k.Raise(at("a", 0), 8); p.raise(at("a", 0), 8) },
		"dropped":  func(k *Table, p *plain) { k.Drop("g"); p.drop("g") },
		"anew": func(k *Table, p *plain) {
			k.Drop("g")
			p.drop("g")
			m := mark("g", "a", 0, 1)
			k.Put(m)
			p.put(m)
		},
		"all": func(k *Table, p *plain) {
			for _, group := range []string{"g", "g0", "h"} {
				k.Drop(group)
				p.drop(group)
			}
		},
	}
}

// A copy tells what its original tells, and each goes its own way.
func TestCopy(t *testing.T) {
	for name, step := range steps() {
		for other, otherStep := range steps() {
			for _, l := range [][]api.Mark{nil, crowd()} {
				k, p := mustLoad(t, l...)
				c, q := k.Copy(), p.copy()
				if c == k {
					t.Fatal("it is the same one")
				}
				match(t, c, q)
				step(c, q)
				match(t, c, q)
				match(t, k, p)
				otherStep(k, p)
				match(t, k, p)
				match(t, c, q)
				// A copy of a copy.
				d, s := c.Copy(), q.copy()
				otherStep(d, s)
				tells(t, d, s)
				tells(t, c, q)
				step(c, q)
				tells(t, c, q)
				tells(t, d, s)
				tells(t, k, p)
				if t.Failed() {
					t.Fatalf("%s, and %s", name, other)
				}
			}
		}
	}
	k := New()
	c := k.Copy()
	p, q := &plain{}, &plain{}
	mustPut(t, c, q, mark("g", "a", 0, 5))
	match(t, k, p)
	match(t, c, q)
	mustPut(t, k, p, mark("g", "a", 0, 2))
	match(t, k, p)
	match(t, c, q)
}

func TestLoad(t *testing.T) {
	for i, l := range [][]api.Mark{
		nil,
		{},
		{mark("g", "a", 0, 5)},
		{mark("g", "a", 0, 0)},
		{mark("g", "a", most, most)},
		crowd(),
		{mark("g", "z", 9, 1), mark("h", "a", 0, 5)},
		{mark("g", "a", 9, 1), mark("g", "b", 0, 5)},
		{mark("g", "a", 2, 9), mark("g", "a", 10, 5)},
		{mark("g10", "a", 0, 5), mark("g2", "a", 0, 5)},
		{mark("g", "t10", 0, 5), mark("g", "t2", 0, 5)},
		{mark("-", "a", 0, 5), mark("0", "a", 0, 5), mark("a", "a", 0, 5)},
		// One group has it below, at and above another one.
		{mark("g", "a", 0, 5), mark("h", "a", 0, 4), mark("i", "a", 0, 5), mark("j", "a", 0, 6)},
	} {
		for name, step := range steps() {
			k, p := mustLoad(t, l...)
			if got := k.List(); !slices.Equal(got, l) {
				t.Errorf("%d: List: %v, want %v", i, got, l)
			}
			step(k, p)
			match(t, k, p)
			if t.Failed() {
				t.Fatal(name)
			}
		}
	}
	// As many as one likes.
	l := inOrder()
	k, p := mustLoad(t, l...)
	tells(t, k, p)
}

func TestLoadRefuses(t *testing.T) {
	good := mark("g", "m", 5, 5)
	var lists [][]api.Mark
	for _, m := range marksThatMayNot() {
		// First, last, in the midst, and all of them.
		lists = append(lists, []api.Mark{m}, []api.Mark{m, good}, []api.Mark{good, m}, []api.Mark{mark("a", "a", 0, 0), m, mark("z", "z", 0, 0)}, []api.Mark{m, m})
	}
	for _, pair := range [][2]api.Mark{
		// By Group.
		{good, mark("f", "m", 5, 5)}, {good, mark("f", "z", 9, 9)}, {good, mark("-", "m", 5, 5)}, {mark("ga", "m", 5, 5), good}, {mark("g2", "m", 5, 5), mark("g10", "m", 5, 5)},
		// By Topic.
		{good, mark("g", "l", 5, 5)}, {good, mark("g", "a", 9, 9)}, {mark("g", "mm", 5, 5), good}, {mark("g", "m2", 5, 5), mark("g", "m10", 5, 5)}, {mark("g", "0", 5, 5), mark("g", "-", 5, 5)},
		// By N.
		{good, mark("g", "m", 4, 5)}, {good, mark("g", "m", 0, 9)}, {mark("g", "m", 10, 5), mark("g", "m", 9, 5)}, {mark("g", "m", 1<<32, 5), mark("g", "m", 1, 5)},
		// One stands twice.
		{good, good}, {good, mark("g", "m", 5, 6)}, {good, mark("g", "m", 5, 4)}, {good, mark("g", "m", 5, 0)},
	} {
		a, b := pair[0], pair[1]
		lists = append(lists, []api.Mark{a, b}, []api.Mark{mark("-", "-", 0, 0), a, b}, []api.Mark{a, b, mark("z", "z", 0, 0)}, []api.Mark{a, mark("z", "z", 0, 0), b})
	}
	back := crowd()
	slices.Reverse(back)
	lists = append(lists, back, append(crowd(), crowd()[8]), append(crowd(), crowd()[0]), append(crowd()[:1], crowd()...), append(crowd(), crowd()...))
	for i, l := range lists {
		was := slices.Clone(l)
		if k, e := Load(l); k != nil || e != api.ErrArg {
			t.Errorf("%d: Load(%v): %v, %d", i, l, k, e)
		}
		if !slices.Equal(l, was) {
			t.Errorf("%d: Load made it into %v", i, l)
		}
	}
}

// Of two marks that stand next to each other, anywhere, either order but the one that List tells is refused.
func TestLoadOfTwoThatChangedPlaces(t *testing.T) {
	for i := range crowd() {
		for j := range i {
			l := crowd()
			l[i], l[j] = l[j], l[i]
			if k, e := Load(l); k != nil || e != api.ErrArg {
				t.Errorf("%d and %d: %v, %d", j, i, k, e)
			}
			l = []api.Mark{crowd()[j], crowd()[i]}
			k, p := mustLoad(t, l...)
			tells(t, k, p)
			slices.Reverse(l)
			if k, e := Load(l); k != nil || e != api.ErrArg {
				t.Errorf("%d ahead of %d: %v, %d", i, j, k, e)
			}
		}
	}
}

// P12.4

// walk does one thing, drawn by chance, to a table and its plain one, tells where their answers differ, and which group was dropped.
func walk(t *testing.T, c *chance, k *Table, p *plain) string {
	t.Helper()
	group, part := "g"+strconv.Itoa(c.below(4)), at([]string{"a", "b", "t"}[c.below(3)], c.below(3))
	offset := c.below(40)
	if c.below(12) == 0 {
		offset = numbers()[c.below(len(numbers()))]
	}
	switch c.below(16) {
	case 0:
		if got, want := k.Drop(group), p.drop(group); got != want {
			t.Fatalf("Drop(%q): %d, want %d", group, got, want)
		}
		return group
	case 1, 2, 3:
		if got, want := k.Raise(part, offset), p.raise(part, offset); got != want {
			t.Fatalf("Raise(%v, %d): %d, want %d", part, offset, got, want)
		}
	case 4:
		m := marksThatMayNot()[c.below(len(marksThatMayNot()))]
		if got, want := k.Put(m), p.put(m); got != want {
			t.Fatalf("Put(%v): %d, want %d", m, got, want)
		}
	default:
		m := api.Mark{Group: group, Part: part, Offset: offset}
		if got, want := k.Put(m), p.put(m); got != want {
			t.Fatalf("Put(%v): %d, want %d", m, got, want)
		}
	}
	return ""
}

// Whatever happens, no mark goes back, and none goes, but of a group that is dropped; what is told is loaded as it is.
func TestAnythingInAnyOrder(t *testing.T) {
	for seed := range 40 {
		c := chance(seed)
		k, p := New(), &plain{}
		for range 400 {
			was := k.List()
			dropped := walk(t, &c, k, p)
			tells(t, k, p)
			for _, m := range was {
				offset, is := k.Get(m.Group, m.Part)
				if m.Group == dropped {
					if is {
						t.Fatalf("%d: %v is there, though it was dropped", seed, m)
					}
					continue
				}
				if !is || offset < m.Offset {
					t.Fatalf("%d: %v went to %d, %v", seed, m, offset, is)
				}
			}
			switch c.below(20) {
			case 0:
				k = k.Copy()
			case 1:
				again, e := Load(k.List())
				if e != api.OK {
					t.Fatalf("%d: Load of what was told: %d", seed, e)
				}
				match(t, again, p)
				k = again
			}
		}
		match(t, k, p)
	}
}

func TestWhatIsToldIsLoaded(t *testing.T) {
	for name, step := range steps() {
		k, p := New(), &plain{}
		mustPut(t, k, p, crowd()...)
		step(k, p)
		again, e := Load(k.List())
		if e != api.OK || again == nil {
			t.Fatalf("%s: Load: %d", name, e)
		}
		match(t, again, p)
		for _, otherStep := range steps() {
			one, q := again.Copy(), p.copy()
			otherStep(one, q)
			match(t, one, q)
		}
	}
}

// R1

// Whatever is handed in, there is an answer, and the right one.
func TestAnythingIsAnswered(t *testing.T) {
	names := []string{"", "g", "g0", "h", "a", "G", "\xff", strings.Repeat("g", 1000)}
	for _, l := range [][]api.Mark{nil, crowd()} {
		k, p := mustLoad(t, l...)
		for _, n := range numbers() {
			for _, offset := range numbers() {
				for _, name := range names {
					for _, topic := range names {
						part := at(topic, n)
						got, is := k.Get(name, part)
						if want, wantIs := p.get(name, part); got != want || is != wantIs {
							t.Fatalf("Get(%q, %v): %d, %v, want %d, %v", name, part, got, is, want, wantIs)
						}
						if got, want := k.Behind(name, part, offset), p.behind(name, part, offset); got != want {
							t.Fatalf("Behind(%q, %v, %d): %d, want %d", name, part, offset, got, want)
						}
						m := api.Mark{Group: name, Part: part, Offset: offset}
						if got, want := k.Put(m), p.put(m); got != want {
							t.Fatalf("Put(%v): %d, want %d", m, got, want)
						}
						if got, want := k.Raise(part, offset), p.raise(part, offset); got != want {
							t.Fatalf("Raise(%v, %d): %d, want %d", part, offset, got, want)
						}
					}
				}
			}
			tells(t, k, p)
		}
		for _, name := range names {
			if got, want := k.Drop(name), p.drop(name); got != want {
				t.Fatalf("Drop(%q): %d, want %d", name, got, want)
			}
			tells(t, k, p)
		}
	}
}

// R4

// roomy is a list with room behind it, and the whole of it.
func roomy[T any](l []T, behind T) ([]T, []T) {
	whole := append(slices.Clone(l), behind, behind, behind)
	return whole[:len(l)], whole
}

// spoil fills a list, and the room behind it.
func spoil[T any](l []T, by T) {
	l = l[:cap(l)]
	for i := range l {
		l[i] = by
	}
}

// What Load is handed in stays as it was, room and all, and may be spoilt afterwards.
func TestLoadKeepsNothing(t *testing.T) {
	for n := range len(crowd()) + 1 {
		for _, fault := range []int{-1, n - 1} {
			l, whole := roomy(crowd()[:n], mark("room", "room", 9, 9))
			want := api.OK
			if fault >= 0 {
				l[fault].Offset = -1
				want = api.ErrArg
			}
			was := slices.Clone(whole)
			k, e := Load(l)
			if e != want {
				t.Fatalf("Load of %d: %d, want %d", n, e, want)
			}
			if !slices.Equal(whole, was) {
				t.Fatalf("Load made it into %v", whole)
			}
			if e != api.OK {
				continue
			}
			for _, step := range steps() {
				one, p := k.Copy(), &plain{crowd()[:n]}
				step(one, p)
				if !slices.Equal(whole, was) {
					t.Fatalf("it is made into %v", whole)
				}
				spoil(l, mark("spoilt", "spoilt", 1, 1))
				match(t, one, p)
				copy(whole, was)
			}
		}
	}
}

// What is told is its owner's: spoilt, room and all, it changes nothing that is told then, and what is done then does not change it.
func TestWhatIsToldIsItsOwners(t *testing.T) {
	for name, step := range steps() {
		k, p := mustLoad(t, crowd()...)
		c, q := k.Copy(), p.copy()
		l, other := k.List(), k.List()
		spoil(append(l, mark("more", "more", 1, 1)), mark("spoilt", "spoilt", 1, 1))
		spoil(l, mark("spoilt", "spoilt", 1, 1))
		if !slices.Equal(other, crowd()) {
			t.Fatalf("%s: the other list is %v", name, other)
		}
		match(t, k, p)
		step(k, p)
		if !slices.Equal(other, crowd()) {
			t.Fatalf("%s: what was told is now %v", name, other)
		}
		match(t, k, p)
		match(t, c, q)
	}
}

// R5

// What is told hangs on which marks there are, not on the order in which they came.
func TestAnswersHangOnNothingElse(t *testing.T) {
	c := chance(5)
	for range 20 {
		k, p := New(), &plain{}
		for _, m := range shuffled(&c, crowd()) {
			// By ways of its own: at once, or from below.
			if c.below(2) == 0 {
				mustPut(t, k, p, api.Mark{Group: m.Group, Part: m.Part, Offset: m.Offset / 2})
			}
			mustPut(t, k, p, m)
		}
		if got := k.List(); !slices.Equal(got, crowd()) {
			t.Fatalf("List: %v", got)
		}
		match(t, k, &plain{crowd()})
		if n := k.Raise(at("a", 0), 6); n != 2 {
			t.Errorf("Raise: %d", n)
		}
		if n := k.Drop("g"); n != 4 {
			t.Errorf("Drop: %d", n)
		}
	}
}

// heldBytes is how much memory is in use.
func heldBytes() int64 {
	runtime.GC()
	var m runtime.MemStats
	runtime.ReadMemStats(&m)
	return int64(m.HeapAlloc)
}

// Names that are pieces of great texts are handed in, and lists with room: they are not kept.
func TestGreatThingsAreNotKept(t *testing.T) {
	const great, n = 1 << 20, 20
	piece := func(i int) string { return strings.Repeat("x", great)[i : i+9] }
	put := func(k *Table, i, offset int) *Table {
		k.Put(mark(piece(i), "a", 0, offset))
		k.Put(mark("g", piece(i), 0, offset))
		return k
	}
	for name, one := range map[string]func(i int) any{
		"Put":       func(i int) any { return put(New(), i, 5) },
		"Put again": func(i int) any { return put(put(New(), i, 5), i, 6) },
		"Put back":  func(i int) any { return put(put(New(), i, 5), i, 4) },
		"Load": func(i int) any {
			k, _ := Load([]api.Mark{mark("g", piece(i), 0, 5), mark(piece(i), "a", 0, 5)})
			return k
		},
		"room":  func(int) any { k, _ := Load(make([]api.Mark, 0, great/64)); return k },
		"Raise": func(i int) any { k := put(New(), i, 5); k.Raise(at(piece(i), 0), 9); return k },
		"Drop":  func(i int) any { k := put(New(), i, 5); k.Drop(piece(i)); return k },
		"asked": func(i int) any {
			k := put(New(), i, 5)
			k.Get(piece(i), at(piece(i), 0))
			k.Behind(piece(i), at(piece(i), 0), 9)
			return k
		},
		"List": func(i int) any { return put(New(), i, 5).List() },
		"Copy": func(i int) any { return put(New(), i, 5).Copy() },
	} {
		before := heldBytes()
		var kept []any
		for i := range n {
			kept = append(kept, one(i))
		}
		if more := heldBytes() - before; more > great {
			t.Errorf("%s: %d bytes are kept", name, more)
		}
		runtime.KeepAlive(kept)
	}
}

// Marks that were dropped are not kept, nor are old ones.
func TestWhatWentIsNotKept(t *testing.T) {
	k, p := mustLoad(t, mark("g", "a", 0, 0))
	before := heldBytes()
	for i := range 100000 {
		group := "h" + strconv.Itoa(i)
		k.Put(mark(group, "a", 0, i))
		k.Put(mark(group, "b", i, i))
		k.Put(mark("g", "a", 0, i))
		if n := k.Drop(group); n != 2 {
			t.Fatalf("%d: Drop: %d", i, n)
		}
	}
	if more := heldBytes() - before; more > 100000 {
		t.Errorf("%d bytes are kept of many marks", more)
	}
	p.put(mark("g", "a", 0, 99999))
	match(t, k, p)
}
