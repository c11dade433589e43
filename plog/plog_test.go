package plog

import (
	"math"
	"runtime"
	"slices"
	"strconv"
	"strings"
	"testing"

	"stagecoach/api"
)

const most = 1 << 40

// plain is a log as the chapter's words say it: all its records in one list, where its segments begin in another one, and each answer made by going over all of them.
type plain struct {
	room, end int
	bases     []int
	all       []api.Found
}

func plainNew(room int) *plain {
	return &plain{room: room, bases: []int{0}}
}

// plainLoad is of segments that may be.
func plainLoad(room int, l []api.Seg) *plain {
	p := &plain{room: room}
	for _, x := range l {
		p.bases, p.end, p.all = append(p.bases, x.Base), x.Next, append(p.all, x.L...)
	}
	return p
}

// open is where the open segment begins.
func (p *plain) open() int {
	return p.bases[len(p.bases)-1]
}

// append is of records that may be.
func (p *plain) append(l []api.Record) (int, api.Errno) {
	there := 0
	for _, f := range p.all {
		if f.Offset >= p.open() {
			there++
		}
	}
	switch {
	case len(l) > p.room:
		return 0, 2
	case p.end+len(l) > most:
		return 0, 50
	case there+len(l) > p.room:
		p.bases = append(p.bases, p.end)
	}
	first := p.end
	for _, r := range l {
		p.all = append(p.all, api.Found{Offset: p.end, R: r})
		p.end++
	}
	return first, 0
}

func (p *plain) read(from, n int) ([]api.Found, api.Errno) {
	if from < p.bases[0] {
		return nil, 60
	}
	if from > p.end {
		return nil, 61
	}
	var l []api.Found
	for _, f := range p.all {
		if f.Offset >= from && len(l) < n {
			l = append(l, f)
		}
	}
	return l, 0
}

// drop lets the records go of which something is so, and tells how many.
func (p *plain) drop(goes func(api.Found) bool) int {
	had, old := len(p.all), p.all
	p.all = nil
	for _, f := range old {
		if !goes(f) {
			p.all = append(p.all, f)
		}
	}
	return had - len(p.all)
}

func (p *plain) retain(before int) int {
	n := 0
	for len(p.bases) > 1 && p.bases[1] <= before {
		p.bases = p.bases[1:]
		n++
	}
	p.drop(func(f api.Found) bool { return f.Offset < p.bases[0] })
	return n
}

func (p *plain) compact() int {
	had := slices.Clone(p.all)
	return p.drop(func(f api.Found) bool {
		return f.Offset < p.open() && f.R.HasKey && slices.ContainsFunc(had, func(b api.Found) bool {
			return b.Offset > f.Offset && b.R.HasKey && b.R.Key == f.R.Key
		})
	})
}

func (p *plain) segs() []api.Seg {
	var l []api.Seg
	for i, base := range p.bases {
		s := api.Seg{Base: base, Next: p.end}
		if i+1 < len(p.bases) {
			s.Next = p.bases[i+1]
		}
		for _, f := range p.all {
			if f.Offset >= s.Base && f.Offset < s.Next {
				s.L = append(s.L, f)
			}
		}
		l = append(l, s)
	}
	return l
}

// bytes are of records whose texts have fewer than 128 bytes: of each a byte, and each text it has behind one that tells its length.
func (p *plain) bytes() int {
	n := 0
	for _, f := range p.all {
		n++
		if f.R.HasKey {
			n += 1 + len(f.R.Key)
		}
		if !f.R.Tomb {
			n += 1 + len(f.R.Value)
		}
	}
	return n
}

// numbered is a record that is like no other one near it, of one of three forms; some share keys.
func numbered(n int) api.Record {
	key := "k" + strconv.Itoa(n%5)
	switch n % 3 {
	case 0:
		return api.Record{Value: "plain" + strconv.Itoa(n)}
	case 1:
		return api.Record{HasKey: true, Key: key, Value: strconv.Itoa(n)}
	default:
		return api.Record{HasKey: true, Key: key, Tomb: true}
	}
}

// some are n records, numbered from a number on.
func some(from, n int) []api.Record {
	var l []api.Record
	for i := range n {
		l = append(l, numbered(from+i))
	}
	return l
}

// founds are records with offsets, numbered as these are.
func founds(offsets ...int) []api.Found {
	var l []api.Found
	for _, o := range offsets {
		l = append(l, api.Found{Offset: o, R: numbered(o & 1023)})
	}
	return l
}

// row are n numbers, from one on, each one behind the one ahead of it.
func row(from, n int) []int {
	var l []int
	for i := range n {
		l = append(l, from+i)
	}
	return l
}

// seg is a segment of records, numbered as their offsets are.
func seg(base, next int, offsets ...int) api.Seg {
	return api.Seg{Base: base, Next: next, L: founds(offsets...)}
}

// bad is a segment of one record, that may not be.
func bad(base, next int, r api.Record) api.Seg {
	return api.Seg{Base: base, Next: next, L: []api.Found{{Offset: base, R: r}}}
}

var (
	badForm = api.Record{Key: "a"}
	badTomb = api.Record{HasKey: true, Tomb: true, Value: "v"}
	bigKey  = api.Record{HasKey: true, Key: strings.Repeat("k", 65)}
	bigText = api.Record{Value: strings.Repeat("v", 513)}
)

func offsets(l []api.Found) []int {
	var out []int
	for _, f := range l {
		out = append(out, f.Offset)
	}
	return out
}

// bases are where segments begin.
func bases(l []api.Seg) []int {
	var out []int
	for _, x := range l {
		out = append(out, x.Base)
	}
	return out
}

func mustNew(t *testing.T, room int) *Log {
	t.Helper()
	g, e := New(room)
	if e != api.OK || g == nil {
		t.Fatalf("New(%d): %v, %d", room, g, e)
	}
	return g
}

func mustLoad(t *testing.T, room int, l ...api.Seg) *Log {
	t.Helper()
	g, e := Load(room, l)
	if e != api.OK || g == nil {
		t.Fatalf("Load(%d, %v): %v, %d", room, l, g, e)
	}
	return g
}

// filled is a log of that room, to which counts of records were appended, and its plain one.
func filled(t *testing.T, room int, counts ...int) (*Log, *plain) {
	t.Helper()
	g, p := mustNew(t, room), plainNew(room)
	for _, n := range counts {
		l := some(p.end, n)
		want, _ := p.append(l)
		if at, e := g.Append(l); at != want || e != api.OK {
			t.Fatalf("Append of %d: %d, %d, want %d", n, at, e, want)
		}
	}
	return g, p
}

// told is all that a log tells without being asked for a place.
type told struct {
	start, end, bytes int
	segs              []api.Seg
}

func tell(g *Log) told {
	start, end := g.Span()
	return told{start, end, g.Bytes(), g.Segs()}
}

func (p *plain) tell() told {
	return told{p.bases[0], p.end, p.bytes(), p.segs()}
}

func sameSeg(a, b api.Seg) bool {
	return a.Base == b.Base && a.Next == b.Next && slices.Equal(a.L, b.L)
}

func (a told) same(b told) bool {
	return a.start == b.start && a.end == b.end && a.bytes == b.bytes && slices.EqualFunc(a.segs, b.segs, sameSeg)
}

// match tells where a log and its plain one differ.
func match(t *testing.T, g *Log, p *plain) {
	t.Helper()
	if got, want := tell(g), p.tell(); !got.same(want) {
		t.Fatalf("told %#v, want %#v", got, want)
	}
	froms := append(row(p.bases[0]-2, min(400, p.end-p.bases[0]+5)), math.MinInt, -1, 0, p.end-1, p.end, p.end+1, most, most+1, math.MaxInt)
	for _, from := range froms {
		for _, n := range []int{math.MinInt, -1, 0, 1, 2, 5, len(p.all) - 1, len(p.all), len(p.all) + 1, math.MaxInt} {
			got, e := g.Read(from, n)
			if want, wantE := p.read(from, n); !slices.Equal(got, want) || e != wantE {
				t.Fatalf("Read(%d, %d): %v, %d, want %v, %d", from, n, got, e, want, wantE)
			}
		}
	}
}

// chance is a row of numbers, always the same one, that look like chance.
type chance uint64

func (c *chance) below(n int) int {
	*c = *c*6364136223846793005 + 1442695040888963407
	return int(uint64(*c>>33) % uint64(n))
}

// The chapter's examples.

func TestExamples(t *testing.T) {
	g, e := New(2)
	if e != api.OK {
		t.Fatalf("New(2): %d", e)
	}
	for i := range 2 {
		if at, e := g.Append([]api.Record{{Value: "a"}, {Value: "b"}}); at != 2*i || e != api.OK {
			t.Errorf("Append of two: %d, %d", at, e)
		}
	}
	if got := bases(g.Segs()); !slices.Equal(got, []int{0, 2}) {
		t.Errorf("segments from %v", got)
	}
	if n := g.Retain(2); n != 1 {
		t.Errorf("Retain(2): %d", n)
	}
	if l, e := g.Read(1, 1); l != nil || e != api.ErrLogBelow {
		t.Errorf("Read(1, 1): %v, %d", l, e)
	}
}

func TestNumbersOfApi(t *testing.T) {
	if api.ErrArg != 1 || api.ErrBig != 2 || api.ErrRecordForm != 30 || api.ErrSegmentFull != 50 || api.ErrLogBelow != 60 || api.ErrLogAbove != 61 || api.MaxSegment != 64 || api.MaxOffset != most {
		t.Error("errors and limits are not the chapter's")
	}
}

// P6.1

func TestNew(t *testing.T) {
	for _, room := range []int{1, 2, 3, 63, 64} {
		match(t, mustNew(t, room), plainNew(room))
		// The room holds from then on.
		g := mustNew(t, room)
		if at, e := g.Append(some(0, room+1)); at != 0 || e != api.ErrBig {
			t.Errorf("New(%d), one too many: %d, %d", room, at, e)
		}
		if at, e := g.Append(some(0, room)); at != 0 || e != api.OK {
			t.Errorf("New(%d), just as many: %d, %d", room, at, e)
		}
	}
	for _, room := range []int{0, -1, math.MinInt, 65, 66, math.MaxInt} {
		if g, e := New(room); g != nil || e != api.ErrArg {
			t.Errorf("New(%d): %v, %d", room, g, e)
		}
	}
}

func TestLoad(t *testing.T) {
	for i, x := range []struct {
		room int
		l    []api.Seg
	}{
		{1, []api.Seg{{}}},
		{64, []api.Seg{seg(7, 7)}},
		{64, []api.Seg{seg(0, most)}},
		{3, []api.Seg{seg(most, most)}},
		{1, []api.Seg{seg(5, 6, 5)}},
		{1, []api.Seg{seg(5, 90, 50)}},
		{3, []api.Seg{seg(5, 9, 5, 6, 8)}},
		{64, []api.Seg{seg(0, 64, row(0, 64)...)}},
		{2, []api.Seg{seg(1, 5, 2, 4), seg(5, 5)}},
		{2, []api.Seg{seg(0, 2, 0, 1), seg(2, 4, 2, 3), seg(4, 5, 4)}},
		{2, []api.Seg{seg(0, 2), seg(2, 9, 8), seg(9, 20, 9, 19), seg(20, 30)}},
		{1, []api.Seg{seg(3, 3), seg(3, 3), seg(3, 4, 3), seg(4, 4), seg(4, 4), seg(4, 6, 5), seg(6, 6)}},
		{64, []api.Seg{seg(10, 74, row(10, 64)...), seg(74, 138, row(74, 64)...), seg(138, 140, 139)}},
		{2, []api.Seg{seg(most-4, most-2, most-4, most-3), seg(most-2, most, most-1)}},
		{2, []api.Seg{seg(most-2, most, most-1), seg(most, most)}},
	} {
		g, e := Load(x.room, x.l)
		if e != api.OK {
			t.Errorf("%d: %d", i, e)
			continue
		}
		match(t, g, plainLoad(x.room, x.l))
		if got := g.Segs(); !slices.EqualFunc(got, x.l, sameSeg) {
			t.Errorf("%d: %v", i, got)
		}
	}
}

func TestLoadRefuses(t *testing.T) {
	for i, x := range []struct {
		room int
		l    []api.Seg
		want api.Errno
	}{
		// The room, whatever else there is.
		{0, []api.Seg{{}}, api.ErrArg},
		{-1, []api.Seg{{}}, api.ErrArg},
		{math.MinInt, []api.Seg{{}}, api.ErrArg},
		{65, []api.Seg{{}}, api.ErrArg},
		{math.MaxInt, []api.Seg{{}}, api.ErrArg},
		{0, nil, api.ErrArg},
		{0, []api.Seg{bad(0, 1, badForm)}, api.ErrArg},
		{65, []api.Seg{bad(0, 1, bigText)}, api.ErrArg},
		// No segments.
		{1, nil, api.ErrArg},
		{64, []api.Seg{}, api.ErrArg},
		// A segment that may not be.
		{9, []api.Seg{seg(-1, 5)}, api.ErrArg},
		{9, []api.Seg{seg(5, 4)}, api.ErrArg},
		{9, []api.Seg{seg(0, most+1)}, api.ErrArg},
		{9, []api.Seg{seg(0, 5, 5)}, api.ErrArg},
		{9, []api.Seg{seg(3, 5, 2)}, api.ErrArg},
		{9, []api.Seg{seg(0, 5, 2, 2)}, api.ErrArg},
		{9, []api.Seg{seg(0, 5), seg(5, 4)}, api.ErrArg},
		{9, []api.Seg{seg(0, most), seg(most, most+1)}, api.ErrArg},
		{64, []api.Seg{seg(0, 65, row(0, 65)...)}, api.ErrArg},
		{9, []api.Seg{bad(0, 1, badForm)}, api.ErrRecordForm},
		{9, []api.Seg{bad(0, 1, badTomb)}, api.ErrRecordForm},
		{9, []api.Seg{bad(0, 1, bigKey)}, api.ErrBig},
		{9, []api.Seg{seg(0, 5, 1), bad(5, 6, bigText)}, api.ErrBig},
		{9, []api.Seg{seg(0, 5, 1), bad(5, 6, badForm), seg(6, 6)}, api.ErrRecordForm},
		// More than room records.
		{1, []api.Seg{seg(1, 5, 2, 4)}, api.ErrArg},
		{3, []api.Seg{seg(0, 9, 1, 2, 3, 4)}, api.ErrArg},
		{2, []api.Seg{seg(0, 2, 0, 1), seg(2, 5, 2, 3, 4)}, api.ErrArg},
		{2, []api.Seg{seg(0, 2, 0, 1), seg(2, 5, 2, 3, 4), seg(5, 5)}, api.ErrArg},
		{63, []api.Seg{seg(0, 64, row(0, 64)...)}, api.ErrArg},
		// Where they begin.
		{2, []api.Seg{seg(1, 5, 2), seg(6, 6)}, api.ErrArg},
		{2, []api.Seg{seg(1, 5, 2), seg(4, 6)}, api.ErrArg},
		{2, []api.Seg{seg(1, 5, 2), seg(1, 5, 2)}, api.ErrArg},
		{2, []api.Seg{seg(1, 5, 2), seg(5, 7), seg(8, 9)}, api.ErrArg},
		{2, []api.Seg{seg(1, 5, 2), seg(5, 7), seg(5, 7)}, api.ErrArg},
		{2, []api.Seg{seg(5, 7), seg(0, 5)}, api.ErrArg},
		// Two faults in one segment: segment.Load's comes first.
		{1, []api.Seg{{Base: 0, Next: 2, L: []api.Found{{Offset: 0, R: badForm}, {Offset: 1}}}}, api.ErrRecordForm},
		{1, []api.Seg{{Base: 0, Next: 2, L: []api.Found{{Offset: 0}, {Offset: 1, R: bigText}}}}, api.ErrBig},
		{2, []api.Seg{seg(0, 5), bad(6, 7, badForm)}, api.ErrRecordForm},
		{2, []api.Seg{seg(0, 5), bad(4, 7, bigKey)}, api.ErrBig},
		{1, []api.Seg{seg(0, 5), {Base: 7, Next: 9, L: []api.Found{{Offset: 7}, {Offset: 8, R: badTomb}}}}, api.ErrRecordForm},
		{2, []api.Seg{bad(5, 4, badForm)}, api.ErrArg},
		// Faults in two segments: the first one's.
		{2, []api.Seg{bad(0, 1, badForm), bad(1, 2, bigText)}, api.ErrRecordForm},
		{2, []api.Seg{bad(0, 1, bigText), bad(1, 2, badForm)}, api.ErrBig},
		{2, []api.Seg{bad(0, 1, bigText), seg(9, 8)}, api.ErrBig},
		{2, []api.Seg{seg(9, 8), bad(8, 9, bigText)}, api.ErrArg},
		{1, []api.Seg{seg(0, 2, 0, 1), bad(2, 3, badForm)}, api.ErrArg},
		{1, []api.Seg{bad(0, 2, badForm), seg(2, 4, 2, 3)}, api.ErrRecordForm},
		{2, []api.Seg{seg(0, 2), seg(3, 4), bad(4, 5, bigText)}, api.ErrArg},
		{2, []api.Seg{seg(0, 2), bad(2, 4, bigText), seg(5, 5)}, api.ErrBig},
	} {
		if g, e := Load(x.room, x.l); g != nil || e != x.want {
			t.Errorf("%d: Load(%d, %v): %v, %d, want %d", i, x.room, x.l, g, e, x.want)
		}
	}
}

// P6.2

func TestAppend(t *testing.T) {
	for i, x := range []struct {
		room  int
		there []int
		n     int
		want  int
		e     api.Errno
		bases []int
	}{
		{3, nil, 0, 0, api.OK, []int{0}},
		{3, nil, 1, 0, api.OK, []int{0}},
		{3, nil, 3, 0, api.OK, []int{0}},
		{3, nil, 4, 0, api.ErrBig, []int{0}},
		{3, nil, 500, 0, api.ErrBig, []int{0}},
		// As many as the open one has room for, and one more.
		{3, []int{1}, 2, 1, api.OK, []int{0}},
		{3, []int{1}, 3, 1, api.OK, []int{0, 1}},
		{3, []int{1}, 4, 0, api.ErrBig, []int{0}},
		{3, []int{2}, 1, 2, api.OK, []int{0}},
		{3, []int{2}, 2, 2, api.OK, []int{0, 2}},
		{3, []int{3}, 1, 3, api.OK, []int{0, 3}},
		{3, []int{3}, 3, 3, api.OK, []int{0, 3}},
		{3, []int{3, 1, 1}, 1, 5, api.OK, []int{0, 3}},
		{3, []int{3, 1, 1}, 2, 5, api.OK, []int{0, 3, 5}},
		{3, []int{2, 3}, 1, 5, api.OK, []int{0, 2, 5}},
		// Of none, no segment is opened.
		{3, []int{3}, 0, 3, api.OK, []int{0}},
		{3, []int{2, 3}, 0, 5, api.OK, []int{0, 2}},
		{1, []int{1}, 0, 1, api.OK, []int{0}},
		{64, []int{64}, 0, 64, api.OK, []int{0}},
		// The least room, and the greatest.
		{1, nil, 1, 0, api.OK, []int{0}},
		{1, nil, 2, 0, api.ErrBig, []int{0}},
		{1, []int{1, 1}, 1, 2, api.OK, []int{0, 1, 2}},
		{64, nil, 64, 0, api.OK, []int{0}},
		{64, nil, 65, 0, api.ErrBig, []int{0}},
		{64, []int{1}, 63, 1, api.OK, []int{0}},
		{64, []int{1}, 64, 1, api.OK, []int{0, 1}},
		{64, []int{64}, 1, 64, api.OK, []int{0, 64}},
	} {
		g, p := filled(t, x.room, x.there...)
		l := some(p.end, x.n)
		p.append(l)
		if at, e := g.Append(l); at != x.want || e != x.e || !slices.Equal(bases(g.Segs()), x.bases) {
			t.Errorf("%d: %d, %d, %v", i, at, e, bases(g.Segs()))
		}
		match(t, g, p)
	}
}

func TestAppendOfNoneIsTheEnd(t *testing.T) {
	full, _ := filled(t, 2, 2, 1, 1)
	for _, l := range [][]api.Record{nil, {}} {
		for _, g := range []*Log{mustNew(t, 1), full, mustLoad(t, 2, seg(3, 90, 5)), mustLoad(t, 1, seg(most, most)), mustLoad(t, 1, seg(most-1, most, most-1))} {
			before := tell(g)
			if at, e := g.Append(l); at != before.end || e != api.OK || !before.same(tell(g)) {
				t.Errorf("%d, %d of %#v", at, e, before)
			}
		}
	}
}

func TestAppendUpToTheGreatestOffset(t *testing.T) {
	for i, x := range []struct {
		room  int
		l     []api.Seg
		n     int
		want  int
		e     api.Errno
		bases []int
	}{
		{3, []api.Seg{seg(most-2, most-2)}, 2, most - 2, api.OK, []int{most - 2}},
		{3, []api.Seg{seg(most-2, most-2)}, 3, 0, api.ErrSegmentFull, []int{most - 2}},
		{3, []api.Seg{seg(most-1, most-1)}, 1, most - 1, api.OK, []int{most - 1}},
		{3, []api.Seg{seg(most-1, most-1)}, 2, 0, api.ErrSegmentFull, []int{most - 1}},
		{3, []api.Seg{seg(most, most)}, 1, 0, api.ErrSegmentFull, []int{most}},
		{3, []api.Seg{seg(0, most)}, 1, 0, api.ErrSegmentFull, []int{0}},
		// A new one would be opened.
		{1, []api.Seg{seg(most-2, most-1, most-2)}, 1, most - 1, api.OK, []int{most - 2, most - 1}},
		{2, []api.Seg{seg(most-2, most-1, most-2)}, 2, 0, api.ErrSegmentFull, []int{most - 2}},
		{1, []api.Seg{seg(most-1, most, most-1)}, 1, 0, api.ErrSegmentFull, []int{most - 1}},
		{64, []api.Seg{seg(0, most-64, 5)}, 64, most - 64, api.OK, []int{0, most - 64}},
		{64, []api.Seg{seg(0, most-63, 5)}, 64, 0, api.ErrSegmentFull, []int{0}},
	} {
		g, p := mustLoad(t, x.room, x.l...), plainLoad(x.room, x.l)
		l := some(0, x.n)
		p.append(l)
		if at, e := g.Append(l); at != x.want || e != x.e || !slices.Equal(bases(g.Segs()), x.bases) {
			t.Errorf("%d: %d, %d, %v", i, at, e, bases(g.Segs()))
		}
		match(t, g, p)
	}
}

func TestAppendRefusesRecords(t *testing.T) {
	good := numbered(1)
	last, high := []api.Seg{seg(0, 2, 0, 1), seg(2, 5, 2, 3, 4)}, []api.Seg{seg(most-1, most)}
	for i, x := range []struct {
		there []api.Seg
		l     []api.Record
		want  api.Errno
	}{
		{last, []api.Record{badForm}, api.ErrRecordForm},
		{last, []api.Record{badTomb}, api.ErrRecordForm},
		{last, []api.Record{bigKey}, api.ErrBig},
		{last, []api.Record{bigText}, api.ErrBig},
		{last, []api.Record{good, badForm}, api.ErrRecordForm},
		{last, []api.Record{good, good, bigText}, api.ErrBig},
		// Of two records the first one's.
		{last, []api.Record{badForm, bigText}, api.ErrRecordForm},
		{last, []api.Record{bigText, badForm}, api.ErrBig},
		{last, []api.Record{good, bigKey, badTomb}, api.ErrBig},
		// A record's comes ahead of there being too many, wherever it stands.
		{last, append(some(0, 3), badForm), api.ErrRecordForm},
		{last, append([]api.Record{badTomb}, some(0, 9)...), api.ErrRecordForm},
		{last, append(some(0, 500), badForm), api.ErrRecordForm},
		{last, append(some(0, 3), bigText, badForm), api.ErrBig},
		// And ahead of the greatest offset.
		{high, []api.Record{badForm}, api.ErrRecordForm},
		{high, []api.Record{good, bigText}, api.ErrBig},
		{high, append(some(0, 9), badTomb), api.ErrRecordForm},
		// Too many come ahead of the greatest offset.
		{high, some(0, 4), api.ErrBig},
		{high, some(0, 3), api.ErrSegmentFull},
	} {
		g := mustLoad(t, 3, x.there...)
		before := tell(g)
		if at, e := g.Append(x.l); at != 0 || e != x.want || !before.same(tell(g)) {
			t.Errorf("%d: %d, %d, want %d", i, at, e, x.want)
		}
		if at, e := g.Append(nil); at != before.end || e != api.OK {
			t.Errorf("%d: then %d, %d", i, at, e)
		}
	}
}

// What counts is how many records the open one has, not how many offsets.
func TestAppendBehindGaps(t *testing.T) {
	g, p := mustLoad(t, 3, seg(0, 900, 4)), plainLoad(3, []api.Seg{seg(0, 900, 4)})
	for i, n := range []int{1, 1, 1, 2, 1} {
		want, _ := p.append(some(i, n))
		if at, e := g.Append(some(i, n)); at != want || e != api.OK {
			t.Errorf("%d: %d, %d, want %d", i, at, e, want)
		}
	}
	match(t, g, p)
	if got := bases(g.Segs()); !slices.Equal(got, []int{0, 902, 905}) {
		t.Errorf("segments from %v", got)
	}
}

// P6.3

func TestRead(t *testing.T) {
	g := mustLoad(t, 4, seg(10, 15, 10, 11, 13), seg(15, 20), seg(20, 26, 21, 22, 25), seg(26, 26), seg(26, 30, 26, 28))
	for i, x := range []struct {
		from, n int
		want    []int
		e       api.Errno
	}{
		{9, 9, nil, api.ErrLogBelow},
		{9, 0, nil, api.ErrLogBelow},
		{9, -1, nil, api.ErrLogBelow},
		{0, 9, nil, api.ErrLogBelow},
		{-1, 9, nil, api.ErrLogBelow},
		{math.MinInt, 9, nil, api.ErrLogBelow},
		{31, 9, nil, api.ErrLogAbove},
		{31, 0, nil, api.ErrLogAbove},
		{31, -1, nil, api.ErrLogAbove},
		{most + 1, 9, nil, api.ErrLogAbove},
		{math.MaxInt, 9, nil, api.ErrLogAbove},
		{10, math.MinInt, nil, api.OK},
		{10, -1, nil, api.OK},
		{10, 0, nil, api.OK},
		{30, -1, nil, api.OK},
		{10, 1, []int{10}, api.OK},
		{10, 3, []int{10, 11, 13}, api.OK},
		{10, 4, []int{10, 11, 13, 21}, api.OK},
		{10, 7, []int{10, 11, 13, 21, 22, 25, 26}, api.OK},
		{10, 8, []int{10, 11, 13, 21, 22, 25, 26, 28}, api.OK},
		{10, 9, []int{10, 11, 13, 21, 22, 25, 26, 28}, api.OK},
		{10, math.MaxInt, []int{10, 11, 13, 21, 22, 25, 26, 28}, api.OK},
		// Between two offsets of which one has gone.
		{11, 1, []int{11}, api.OK},
		{12, 1, []int{13}, api.OK},
		{13, 2, []int{13, 21}, api.OK},
		{14, 2, []int{21, 22}, api.OK},
		{23, 2, []int{25, 26}, api.OK},
		{27, 9, []int{28}, api.OK},
		{29, 9, nil, api.OK},
		// From where segments begin.
		{15, 1, []int{21}, api.OK},
		{20, 2, []int{21, 22}, api.OK},
		{25, 1, []int{25}, api.OK},
		{26, 1, []int{26}, api.OK},
		{26, 9, []int{26, 28}, api.OK},
		{30, 9, nil, api.OK},
	} {
		if l, e := g.Read(x.from, x.n); !slices.Equal(l, founds(x.want...)) || e != x.e {
			t.Errorf("%d: Read(%d, %d): %v, %d", i, x.from, x.n, l, e)
		}
	}
}

func TestReadOfNoRecords(t *testing.T) {
	for _, g := range []*Log{mustNew(t, 5), mustLoad(t, 5, seg(0, 0), seg(0, 0))} {
		for from, want := range map[int]api.Errno{-1: api.ErrLogBelow, 0: api.OK, 1: api.ErrLogAbove} {
			if l, e := g.Read(from, 5); l != nil || e != want {
				t.Errorf("Read(%d, 5): %v, %d", from, l, e)
			}
		}
	}
	// A log may begin behind 0, and have gaps alone.
	g := mustLoad(t, 5, seg(7, 9))
	for from, want := range map[int]api.Errno{6: api.ErrLogBelow, 7: api.OK, 8: api.OK, 9: api.OK, 10: api.ErrLogAbove} {
		if l, e := g.Read(from, 5); l != nil || e != want {
			t.Errorf("Read(%d, 5): %v, %d", from, l, e)
		}
	}
}

// P6.4

func TestRetain(t *testing.T) {
	for i, x := range []struct {
		before, want int
		bases        []int
	}{
		{math.MinInt, 0, []int{0, 3, 5, 8}},
		{-1, 0, []int{0, 3, 5, 8}},
		{0, 0, []int{0, 3, 5, 8}},
		{1, 0, []int{0, 3, 5, 8}},
		{2, 0, []int{0, 3, 5, 8}},
		{3, 1, []int{3, 5, 8}},
		{4, 1, []int{3, 5, 8}},
		{5, 2, []int{5, 8}},
		{7, 2, []int{5, 8}},
		{8, 3, []int{8}},
		{9, 3, []int{8}},
		// The open one stays, whatever is said.
		{10, 3, []int{8}},
		{11, 3, []int{8}},
		{most, 3, []int{8}},
		{math.MaxInt, 3, []int{8}},
	} {
		g, p := filled(t, 3, 3, 2, 3, 2)
		if n := g.Retain(x.before); n != x.want || p.retain(x.before) != x.want || !slices.Equal(bases(g.Segs()), x.bases) {
			t.Errorf("%d: Retain(%d): %d, %v", i, x.before, n, bases(g.Segs()))
		}
		match(t, g, p)
		before := tell(g)
		if n := g.Retain(x.before); n != 0 || !before.same(tell(g)) {
			t.Errorf("%d: again: %d", i, n)
		}
		// What comes then has further offsets.
		p.append(some(10, 2))
		if at, e := g.Append(some(10, 2)); at != 10 || e != api.OK {
			t.Errorf("%d: further ones at %d, %d", i, at, e)
		}
		match(t, g, p)
	}
}

func TestRetainOfOneSegment(t *testing.T) {
	g, p := filled(t, 3, 3)
	for _, before := range []int{-1, 0, 2, 3, 4, most, math.MaxInt} {
		if n := g.Retain(before); n != 0 {
			t.Errorf("Retain(%d): %d", before, n)
		}
		match(t, g, p)
	}
}

func TestRetainOfEmptySegments(t *testing.T) {
	l := []api.Seg{seg(3, 3), seg(3, 3), seg(3, 5), seg(5, 5), seg(5, 5)}
	for before, want := range map[int]int{2: 0, 3: 2, 4: 2, 5: 4, 6: 4} {
		g := mustLoad(t, 1, l...)
		if n := g.Retain(before); n != want || !slices.EqualFunc(g.Segs(), l[want:], sameSeg) {
			t.Errorf("Retain(%d): %d, %v", before, n, g.Segs())
		}
	}
}

// typed are records, each of a letter: a key's, or a point for none; one that is great is a tomb of its small one.
func typed(letters string) []api.Record {
	var l []api.Record
	for i, c := range letters {
		key, value := strings.ToLower(string(c)), strconv.Itoa(i)
		switch {
		case c == '.':
			l = append(l, api.Record{Value: value})
		case key != string(c):
			l = append(l, api.Record{HasKey: true, Key: key, Tomb: true})
		default:
			l = append(l, api.Record{HasKey: true, Key: key, Value: value})
		}
	}
	return l
}

func TestCompact(t *testing.T) {
	for i, x := range []struct {
		segs []string
		stay []int
	}{
		// Of none, and of the open one alone.
		{[]string{""}, nil},
		{[]string{"aaaa"}, []int{0, 1, 2, 3}},
		{[]string{"aA.a"}, []int{0, 1, 2, 3}},
		// In the same segment.
		{[]string{"aaab", "...."}, []int{2, 3, 4, 5, 6, 7}},
		{[]string{"abab", "cdcd"}, []int{2, 3, 4, 5, 6, 7}},
		// In a later one.
		{[]string{"abcd", "befg", "...."}, []int{0, 2, 3, 4, 5, 6, 7, 8, 9, 10, 11}},
		{[]string{"abcd", "abcd", "...."}, []int{4, 5, 6, 7, 8, 9, 10, 11}},
		{[]string{"abcd", "....", "efga", "...."}, []int{1, 2, 3, 4, 5, 6, 7, 8, 9, 10, 11, 12, 13, 14, 15}},
		// In the open one.
		{[]string{"abcd", "d"}, []int{0, 1, 2, 4}},
		{[]string{"abcd", "dcba"}, []int{4, 5, 6, 7}},
		{[]string{"aaaa", "aaaa", "aaaa"}, []int{8, 9, 10, 11}},
		{[]string{"aaaa", "aaaa", "bbbb"}, []int{7, 8, 9, 10, 11}},
		// Without a key.
		{[]string{"....", "....", "...."}, row(0, 12)},
		{[]string{".a.a", "a..."}, []int{0, 2, 4, 5, 6, 7}},
		// Tombs.
		{[]string{"aAbB", "...."}, []int{1, 3, 4, 5, 6, 7}},
		{[]string{"AaBb", "...."}, []int{1, 3, 4, 5, 6, 7}},
		{[]string{"AABc", "Abc."}, []int{4, 5, 6, 7}},
		{[]string{"Abcd", "...."}, row(0, 8)},
	} {
		g, p := mustNew(t, 4), plainNew(4)
		for _, s := range x.segs {
			g.Append(typed(s))
			p.append(typed(s))
		}
		had, open := g.Segs(), slices.Clone(g.Segs()[len(x.segs)-1].L)
		count, want := len(strings.Join(x.segs, "")), p.compact()
		if n := g.Compact(); n != count-len(x.stay) || n != want {
			t.Errorf("%d: %d went", i, n)
		}
		match(t, g, p)
		l, e := g.Read(0, 99)
		if e != api.OK || !slices.Equal(offsets(l), x.stay) {
			t.Errorf("%d: %v stay, %d", i, offsets(l), e)
		}
		now := g.Segs()
		if !slices.Equal(bases(now), bases(had)) || !slices.Equal(now[len(now)-1].L, open) {
			t.Errorf("%d: %v, was %v", i, now, had)
		}
		// Once more: all that may go has gone.
		if n := g.Compact(); n != 0 || !slices.EqualFunc(g.Segs(), now, sameSeg) {
			t.Errorf("%d: %d went then", i, n)
		}
		// The end stays, and what comes then has further offsets.
		p.append(typed("abcd"))
		if at, e := g.Append(typed("abcd")); at != count || e != api.OK {
			t.Errorf("%d: further ones at %d, %d", i, at, e)
		}
		if n, want := g.Compact(), p.compact(); n != want {
			t.Errorf("%d: %d went at last, want %d", i, n, want)
		}
		match(t, g, p)
	}
}

// A key of no bytes is a key; no key is none.
func TestCompactOfEmptyKeys(t *testing.T) {
	g := mustNew(t, 3)
	none, empty := api.Record{Value: "v"}, api.Record{HasKey: true, Value: "v"}
	g.Append([]api.Record{none, empty, none})
	g.Append([]api.Record{none, none, none})
	if n := g.Compact(); n != 0 {
		t.Errorf("%d went", n)
	}
	g.Append([]api.Record{empty, none, none})
	if n := g.Compact(); n != 1 {
		t.Errorf("%d went", n)
	}
	if l, _ := g.Read(0, 99); !slices.Equal(offsets(l), []int{0, 2, 3, 4, 5, 6, 7, 8}) {
		t.Errorf("%v stay", offsets(l))
	}
}

// What is no open one any more is compacted with all others; of what has gone ahead of it nothing is known any more.
func TestCompactAndRetain(t *testing.T) {
	g, p := mustNew(t, 3), plainNew(3)
	for i, s := range []string{"aab", "aac", "b.", "a", "ddd", "dA."} {
		g.Append(typed(s))
		p.append(typed(s))
		if i%2 == 1 {
			if n, want := g.Compact(), p.compact(); n != want {
				t.Errorf("%d: %d went, want %d", i, n, want)
			}
		}
		match(t, g, p)
	}
	for before := range 16 {
		if n, want := g.Retain(before), p.retain(before); n != want {
			t.Errorf("Retain(%d): %d, want %d", before, n, want)
		}
		if n, want := g.Compact(), p.compact(); n != want {
			t.Errorf("%d: %d went, want %d", before, n, want)
		}
		match(t, g, p)
	}
}

// P6.5

func TestSpanBytesAndSegs(t *testing.T) {
	text := func(n int) string { return strings.Repeat("x", n) }
	g, sum, want := mustNew(t, 2), 0, []api.Seg(nil)
	for i, x := range []struct {
		r    api.Record
		size int
	}{
		{api.Record{}, 2},
		{api.Record{Value: "v"}, 3},
		{api.Record{HasKey: true}, 3},
		{api.Record{HasKey: true, Key: "kk", Tomb: true}, 4},
		{api.Record{Value: text(127)}, 129},
		{api.Record{Value: text(128)}, 131},
		{api.Record{HasKey: true, Key: text(64), Value: text(512)}, 580},
	} {
		if i%2 == 0 {
			want = append(want, api.Seg{Base: i})
		}
		now := &want[len(want)-1]
		now.Next, now.L = i+1, append(now.L, api.Found{Offset: i, R: x.r})
		g.Append([]api.Record{x.r})
		sum += x.size
		start, end := g.Span()
		if start != 0 || end != i+1 || g.Bytes() != sum || !slices.EqualFunc(g.Segs(), want, sameSeg) {
			t.Errorf("%d: from %d to %d, %d bytes, %v", i, start, end, g.Bytes(), g.Segs())
		}
	}
	g.Retain(4)
	if start, end := g.Span(); start != 4 || end != 7 || g.Bytes() != 840 || !slices.EqualFunc(g.Segs(), want[2:], sameSeg) {
		t.Errorf("then from %d to %d, %d bytes, %v", start, end, g.Bytes(), g.Segs())
	}
}

func TestCopy(t *testing.T) {
	for _, counts := range [][]int{nil, {1}, {3}, {3, 2}, {3, 3, 3, 3}, {2, 2, 3, 1, 1}} {
		g, p := filled(t, 3, counts...)
		before := tell(g)
		c := g.Copy()
		if c == g || !before.same(tell(c)) {
			t.Fatalf("%v: another one tells %#v", counts, tell(c))
		}
		// What one does the other one does not hear of, whichever it is.
		for _, x := range []struct{ a, b *Log }{{g.Copy(), g}, {c.Copy(), c}} {
			x.a.Append(some(901, 1))
			x.a.Append(typed("abc"))
			x.a.Append(typed("abc"))
			x.a.Compact()
			x.a.Retain(4)
			if !before.same(tell(x.b)) {
				t.Errorf("%v: %#v, was %#v", counts, tell(x.b), before)
			}
		}
		// Both go on from where the copy was made, each with its own records.
		q := plainLoad(3, p.segs())
		for i := range 4 {
			g.Append(some(200+i, 2))
			c.Append(some(300+i, 1))
			p.append(some(200+i, 2))
			q.append(some(300+i, 1))
		}
		match(t, g, p)
		match(t, c, q)
		if n, want := g.Compact(), p.compact(); n != want {
			t.Errorf("%v: %d went, want %d", counts, n, want)
		}
		if n, want := c.Retain(5), q.retain(5); n != want {
			t.Errorf("%v: %d went, want %d", counts, n, want)
		}
		match(t, g, p)
		match(t, c, q)
	}
}

// Segments that were let go by one stay in the other one, and so does the room.
func TestCopyThenRetain(t *testing.T) {
	g, p := filled(t, 2, 2, 2, 1)
	c := g.Copy()
	g.Retain(4)
	match(t, c, p)
	if at, e := c.Append(some(5, 3)); at != 0 || e != api.ErrBig {
		t.Errorf("one too many: %d, %d", at, e)
	}
	p.append(some(5, 2))
	c.Append(some(5, 2))
	match(t, c, p)
	if start, end := g.Span(); start != 4 || end != 5 {
		t.Errorf("from %d to %d", start, end)
	}
}

// P6.6

func TestWhatWasAppendedIsReadUntilItIsLetGo(t *testing.T) {
	for seed := range 80 {
		c := chance(seed)
		room := [...]int{1, 2, 3, 7, 64}[seed%5]
		base := [...]int{0, 5, most - 90}[seed%3]
		g, p := mustLoad(t, room, seg(base, base)), plainLoad(room, []api.Seg{seg(base, base)})
		for range 60 {
			switch c.below(6) {
			case 0, 1, 2:
				l := some(c.below(1000), c.below(room+2))
				at, e := g.Append(l)
				if want, wantE := p.append(l); at != want || e != wantE {
					t.Fatalf("%d: Append of %d: %d, %d, want %d, %d", seed, len(l), at, e, want, wantE)
				}
			case 3:
				before := p.bases[0] + c.below(p.end-p.bases[0]+3)*c.below(3)/4
				if got, want := g.Retain(before), p.retain(before); got != want {
					t.Fatalf("%d: Retain(%d): %d, want %d", seed, before, got, want)
				}
			case 4:
				if got, want := g.Compact(), p.compact(); got != want {
					t.Fatalf("%d: Compact: %d, want %d", seed, got, want)
				}
			case 5:
				again, e := Load(room, g.Segs())
				if e != api.OK || !tell(again).same(tell(g)) {
					t.Fatalf("%d: Load of Segs: %d", seed, e)
				}
				g = again.Copy()
			}
			if !tell(g).same(p.tell()) {
				t.Fatalf("%d: told %#v, want %#v", seed, tell(g), p.tell())
			}
		}
		match(t, g, p)
	}
}

// TestOffsetsRiseAndTheLastOfEachKeyStays asks the chapter's words of a log, without a plain one beside it.
func TestOffsetsRiseAndTheLastOfEachKeyStays(t *testing.T) {
	c, g := chance(7), mustNew(t, 4)
	end, last := 0, map[string]api.Found{}
	for range 400 {
		l := some(c.below(1000), c.below(5))
		at, e := g.Append(l)
		if e != api.OK || at != end {
			t.Fatalf("Append of %d: %d, %d, want %d", len(l), at, e, end)
		}
		for i, r := range l {
			if r.HasKey {
				last[r.Key] = api.Found{Offset: at + i, R: r}
			}
		}
		end += len(l)
		if c.below(3) == 0 {
			g.Compact()
		}
		all, e := g.Read(0, end)
		if e != api.OK || !slices.IsSorted(offsets(all)) || len(slices.Compact(offsets(all))) != len(all) {
			t.Fatalf("%v, %d", offsets(all), e)
		}
		for key, f := range last {
			if !slices.Contains(all, f) {
				t.Fatalf("the last one of %s, %d, has gone", key, f.Offset)
			}
		}
	}
}

// R4

// roomy is a list with room behind it, and the whole of it.
func roomy[T any](l []T, behind T) ([]T, []T) {
	whole := append(slices.Clone(l), behind, behind, behind)
	return whole[:len(l)], whole
}

// spoil fills a list, and the room behind it.
func spoil[T any](l []T, by T) {
	l = l[:cap(l)]
	for i := range l {
		l[i] = by
	}
}

// spoilSegs spoils the lists within, and then the segments.
func spoilSegs(l []api.Seg) {
	for _, x := range l {
		spoil(x.L, api.Found{Offset: -5, R: badForm})
	}
	spoil(l, api.Seg{Base: -5, Next: -6})
}

func TestWhatIsHandedInStays(t *testing.T) {
	behind := api.Found{Offset: 99, R: api.Record{Value: "room"}}
	l0, whole0 := roomy(founds(4, 7), behind)
	l1, whole1 := roomy(founds(10, 13), behind)
	l, whole := roomy([]api.Seg{{Base: 3, Next: 10, L: l0}, {Base: 10, Next: 14, L: l1}}, seg(1, 2, 1))
	records, wholeRecords := roomy(typed("aba"), behind.R)
	was0, was1, wasRecords := slices.Clone(whole0), slices.Clone(whole1), slices.Clone(wholeRecords)
	g := mustLoad(t, 3, l...)
	for range 3 {
		g.Append(records)
		g.Compact()
	}
	g.Retain(10)
	g.Append(records[:1])
	if !slices.Equal(whole0, was0) || !slices.Equal(whole1, was1) || !slices.Equal(wholeRecords, wasRecords) {
		t.Errorf("changed: %v, %v, %v", whole0, whole1, wholeRecords)
	}
	if want := []api.Seg{{Base: 3, Next: 10, L: was0[:2]}, {Base: 10, Next: 14, L: was1[:2]}, seg(1, 2, 1), seg(1, 2, 1), seg(1, 2, 1)}; !slices.EqualFunc(whole, want, sameSeg) {
		t.Errorf("changed: %v", whole)
	}
}

func TestWhatIsHandedInIsNotKept(t *testing.T) {
	l, records := []api.Seg{seg(3, 10, 4, 7), seg(10, 14, 10, 13)}, some(14, 3)
	g, p := mustLoad(t, 3, l...), plainLoad(3, l)
	g.Append(records)
	p.append(slices.Clone(records))
	spoilSegs(l)
	spoil(records, badForm)
	match(t, g, p)
}

func TestWhatIsToldIsItsOwners(t *testing.T) {
	for _, counts := range [][]int{nil, {1}, {3}, {3, 2}, {3, 3, 3, 1}} {
		g, p := filled(t, 3, counts...)
		if n, want := g.Compact(), p.compact(); n != want {
			t.Fatalf("%v: %d went, want %d", counts, n, want)
		}
		c := g.Copy()
		segs := g.Segs()
		read, _ := g.Read(0, 99)
		for _, from := range []int{0, 1, p.end} {
			for _, n := range []int{0, 1, 4, 99} {
				l, _ := g.Read(from, n)
				spoil(l, api.Found{Offset: -5, R: badForm})
			}
		}
		spoilSegs(g.Segs())
		spoilSegs(c.Segs())
		match(t, g, p)
		match(t, c, p)
		if !slices.EqualFunc(segs, p.segs(), sameSeg) || !slices.Equal(read, p.all) {
			t.Errorf("%v: answers share memory", counts)
		}
		// Nor does what the log does later change what it told.
		told, was := p.segs(), slices.Clone(p.all)
		for range 3 {
			g.Append(typed("aba"))
			g.Compact()
		}
		g.Retain(3)
		if !slices.EqualFunc(segs, told, sameSeg) || !slices.Equal(read, was) {
			t.Errorf("%v: an answer changed later", counts)
		}
		// No two lists of one answer share any.
		for i := range segs {
			spoil(segs[i].L, api.Found{Offset: -5})
			if i+1 < len(segs) && !sameSeg(segs[i+1], told[i+1]) {
				t.Errorf("%v: segment %d's list holds a piece of the next one's", counts, i)
			}
		}
		match(t, c, p)
	}
}

// heldBytes is how much memory is in use.
func heldBytes() int64 {
	runtime.GC()
	var m runtime.MemStats
	runtime.ReadMemStats(&m)
	return int64(m.HeapAlloc)
}

// TestWhatWentIsNotKept lets segments go, and records that came later.
func TestWhatWentIsNotKept(t *testing.T) {
	for name, let := range map[string]func(*Log){
		"Retain":  func(g *Log) { g.Retain(most) },
		"Compact": func(g *Log) { g.Compact() },
	} {
		g := mustNew(t, 64)
		for range 10000 {
			g.Append([]api.Record{{HasKey: true, Key: "k", Value: strings.Repeat("v", 512)}})
		}
		before := heldBytes()
		let(g)
		if less := before - heldBytes(); less < 9000*512 {
			t.Errorf("%s: %d bytes went", name, less)
		}
		runtime.KeepAlive(g)
	}
	// Nor is there room left for segments that went.
	g := mustNew(t, 1)
	for range 100000 {
		g.Append([]api.Record{{}})
	}
	g.Retain(most)
	if n := cap(g.segs); n > 64 {
		t.Errorf("there is room for %d segments", n)
	}
}
