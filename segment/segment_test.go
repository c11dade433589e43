package segment

import (
	"math"
	"reflect"
	"runtime"
	"slices"
	"strconv"
	"strings"
	"testing"

	"stagecoach/api"
)

const most = 1 << 40

// plain is a segment as the chapter's words say it: its records in a map by their offsets, and each answer made by asking offset after offset.
type plain struct {
	base, next int
	at         map[int]api.Record
}

func plainNew(base int) *plain {
	return &plain{base: base, next: base, at: map[int]api.Record{}}
}

func (p *plain) all() []api.Found {
	var l []api.Found
	for o := p.base; o < p.next; o++ {
		if r, ok := p.at[o]; ok {
			l = append(l, api.Found{Offset: o, R: r})
		}
	}
	return l
}

func (p *plain) append(l []api.Record) (int, api.Errno) {
	if len(p.at)+len(l) > 64 || p.next+len(l) > most {
		return 0, 50
	}
	first := p.next
	for _, r := range l {
		p.at[p.next] = r
		p.next++
	}
	return first, 0
}

func (p *plain) read(from, n int) []api.Found {
	var l []api.Found
	for _, f := range p.all() {
		if f.Offset >= from && len(l) < n {
			l = append(l, f)
		}
	}
	return l
}

func (p *plain) keep(offsets []int) int {
	gone := 0
	for _, f := range p.all() {
		if !slices.Contains(offsets, f.Offset) {
			delete(p.at, f.Offset)
			gone++
		}
	}
	return gone
}

func (p *plain) bytes() int {
	n := 0
	for _, r := range p.at {
		n += plainSize(r)
	}
	return n
}

// plainSize is a record's size: its first byte, and each text it has behind its length, which is of two bytes from 128 on.
func plainSize(r api.Record) int {
	text := func(s string) int {
		if len(s) < 128 {
			return 1 + len(s)
		}
		return 2 + len(s)
	}
	n := 1
	if r.HasKey {
		n += text(r.Key)
	}
	if !r.Tomb {
		n += text(r.Value)
	}
	return n
}

func (p *plain) index() []int {
	var l []int
	for i, f := range p.all() {
		if i%8 == 0 {
			l = append(l, f.Offset)
		}
	}
	return l
}

// numbered is a record that is like no other one, of one of the three forms.
func numbered(n int) api.Record {
	switch s := strconv.Itoa(n); n % 3 {
	case 0:
		return api.Record{Value: s + strings.Repeat("v", n%200)}
	case 1:
		return api.Record{HasKey: true, Key: "k" + s, Value: s}
	default:
		return api.Record{HasKey: true, Key: "k" + s, Tomb: true}
	}
}

// some are n records, numbered from a number on.
func some(from, n int) []api.Record {
	var l []api.Record
	for i := range n {
		l = append(l, numbered(from+i))
	}
	return l
}

// founds are records with offsets, numbered as these are.
func founds(offsets ...int) []api.Found {
	var l []api.Found
	for _, o := range offsets {
		l = append(l, api.Found{Offset: o, R: numbered(o & 1023)})
	}
	return l
}

// row are n numbers, from one on, each so many behind the one ahead of it.
func row(from, n, step int) []int {
	var l []int
	for i := range n {
		l = append(l, from+i*step)
	}
	return l
}

func offsets(l []api.Found) []int {
	var out []int
	for _, f := range l {
		out = append(out, f.Offset)
	}
	return out
}

func mustNew(t *testing.T, base int) *Segment {
	t.Helper()
	s, e := New(base)
	if e != api.OK || s == nil {
		t.Fatalf("New(%d): %v, %d", base, s, e)
	}
	return s
}

func mustLoad(t *testing.T, base, next int, l []api.Found) *Segment {
	t.Helper()
	s, e := Load(base, next, l)
	if e != api.OK || s == nil {
		t.Fatalf("Load(%d, %d, %v): %v, %d", base, next, offsets(l), s, e)
	}
	return s
}

// full is a segment of n records, from base on, without a gap.
func full(t *testing.T, base, n int) *Segment {
	t.Helper()
	s := mustNew(t, base)
	if at, e := s.Append(some(0, n)); at != base || e != api.OK {
		t.Fatalf("Append of %d: %d, %d", n, at, e)
	}
	return s
}

// told is all that a segment tells without being asked for a place.
type told struct {
	Base, Next, Len, Bytes int
	Index                  []int
	All                    []api.Found
}

func tell(s *Segment) told {
	base, next := s.Span()
	return told{base, next, s.Len(), s.Bytes(), s.Index(), s.All()}
}

func (a told) same(b told) bool {
	return a.Base == b.Base && a.Next == b.Next && a.Len == b.Len && a.Bytes == b.Bytes && slices.Equal(a.Index, b.Index) && slices.Equal(a.All, b.All)
}

// match tells where a segment and its plain one differ.
func match(t *testing.T, s *Segment, p *plain) {
	t.Helper()
	want := told{p.base, p.next, len(p.at), p.bytes(), p.index(), p.all()}
	if got := tell(s); !got.same(want) {
		t.Fatalf("told %#v, want %#v", got, want)
	}
	ns := []int{math.MinInt, -1, 0, 1, 2, 7, 8, 9, len(p.at) - 1, len(p.at), len(p.at) + 1, math.MaxInt}
	froms := append(row(p.base-2, p.next-p.base+4, 1), math.MinInt, -1, 0, most, most+1, math.MaxInt)
	for _, from := range froms {
		for _, n := range ns {
			if got, want := s.Read(from, n), p.read(from, n); !slices.Equal(got, want) {
				t.Fatalf("Read(%d, %d) of %v: %#v, want %#v", from, n, offsets(p.all()), got, want)
			}
		}
	}
}

// chance is a row of numbers, always the same one, that look like chance.
type chance uint64

func (c *chance) below(n int) int {
	*c = *c*6364136223846793005 + 1442695040888963407
	return int(uint64(*c>>33) % uint64(n))
}

// The chapter's examples.

func TestExamples(t *testing.T) {
	s, e := New(10)
	if e != api.OK {
		t.Fatalf("New(10): %d", e)
	}
	l := []api.Record{{Value: "a"}, {HasKey: true, Key: "k", Value: "b"}}
	if at, e := s.Append(l); at != 10 || e != api.OK {
		t.Errorf("Append of two: %d, %d", at, e)
	}
	if got := s.Read(11, 5); !slices.Equal(got, []api.Found{{Offset: 11, R: l[1]}}) {
		t.Errorf("Read(11, 5): %#v", got)
	}
	if n := s.Keep([]int{11}); n != 1 {
		t.Errorf("Keep(11): %d", n)
	}
	if base, next := s.Span(); base != 10 || next != 12 {
		t.Errorf("Span: %d, %d", base, next)
	}
}

func TestNumbersOfApi(t *testing.T) {
	if api.ErrArg != 1 || api.ErrBig != 2 || api.ErrRecordForm != 30 || api.ErrSegmentFull != 50 || api.MaxSegment != 64 || api.MaxOffset != most {
		t.Error("errors and limits are not the chapter's")
	}
}

// P5.1

func TestNew(t *testing.T) {
	for _, base := range []int{0, 1, 10, 1<<31 + 5, most - 1, most} {
		s := mustNew(t, base)
		if got := tell(s); !got.same(told{Base: base, Next: base}) {
			t.Errorf("New(%d) tells %#v", base, got)
		}
		if l := s.Read(0, 9); len(l) != 0 {
			t.Errorf("New(%d) reads %#v", base, l)
		}
	}
	for _, base := range []int{-1, math.MinInt, most + 1, math.MaxInt} {
		if s, e := New(base); s != nil || e != api.ErrArg {
			t.Errorf("New(%d): %v, %d", base, s, e)
		}
	}
}

func TestLoad(t *testing.T) {
	gaps := founds(100, 101, 103, 110, 111, 112, 120, 121, 122, 199)
	for i, x := range []struct {
		base, next int
		l          []api.Found
	}{
		{0, 0, nil},
		{0, 0, []api.Found{}},
		{7, 7, nil},
		{0, most, nil},
		{most, most, nil},
		{5, 9, nil},
		{0, 1, founds(0)},
		{5, 9, founds(5)},
		{5, 9, founds(8)},
		{5, 9, founds(5, 8)},
		{5, 9, founds(5, 6, 7, 8)},
		{5, 9, founds(6, 7)},
		{0, most, founds(0, 1, 1<<39, most-1)},
		{most - 1, most, founds(most - 1)},
		{100, 200, gaps},
		{0, 64, founds(row(0, 64, 1)...)},
		{0, 63, founds(row(0, 63, 1)...)},
		{10, 1000, founds(row(10, 64, 3)...)},
		{0, 9, []api.Found{{Offset: 1}, {Offset: 2, R: api.Record{HasKey: true, Key: strings.Repeat("k", 64), Value: strings.Repeat("v", 512)}}}},
	} {
		s, e := Load(x.base, x.next, x.l)
		if e != api.OK {
			t.Errorf("%d: %d", i, e)
			continue
		}
		p := &plain{x.base, x.next, map[int]api.Record{}}
		for _, f := range x.l {
			p.at[f.Offset] = f.R
		}
		if x.next-x.base < 2000 {
			match(t, s, p)
		}
		if base, next := s.Span(); base != x.base || next != x.next || !slices.Equal(s.All(), x.l) {
			t.Errorf("%d: %d, %d, %v", i, base, next, offsets(s.All()))
		}
	}
}

// badAt are records with offsets, of which one may not be.
func badAt(l []api.Found, i int, r api.Record) []api.Found {
	l[i].R = r
	return l
}

var (
	badForm = api.Record{Key: "a"}
	badTomb = api.Record{HasKey: true, Tomb: true, Value: "v"}
	bigKey  = api.Record{HasKey: true, Key: strings.Repeat("k", 65)}
	bigText = api.Record{Value: strings.Repeat("v", 513)}
)

func TestLoadRefuses(t *testing.T) {
	two := func(a, b api.Record) []api.Found { return []api.Found{{Offset: 5, R: a}, {Offset: 6, R: b}} }
	for i, x := range []struct {
		base, next int
		l          []api.Found
		want       api.Errno
	}{
		// Base and next.
		{-1, 5, nil, api.ErrArg},
		{-1, -1, nil, api.ErrArg},
		{math.MinInt, 5, nil, api.ErrArg},
		{0, -1, nil, api.ErrArg},
		{0, math.MinInt, nil, api.ErrArg},
		{0, most + 1, nil, api.ErrArg},
		{0, math.MaxInt, nil, api.ErrArg},
		{most + 1, most + 1, nil, api.ErrArg},
		{most + 1, most + 2, nil, api.ErrArg},
		{math.MaxInt, math.MaxInt, nil, api.ErrArg},
		{5, 4, nil, api.ErrArg},
		{most, most - 1, nil, api.ErrArg},
		{most, 0, nil, api.ErrArg},
		// Offsets of records.
		{5, 9, founds(4), api.ErrArg},
		{5, 9, founds(4, 5), api.ErrArg},
		{5, 9, founds(9), api.ErrArg},
		{5, 9, founds(8, 9), api.ErrArg},
		{5, 9, founds(10), api.ErrArg},
		{5, 9, founds(7, 7), api.ErrArg},
		{5, 9, founds(8, 7), api.ErrArg},
		{5, 9, founds(5, 6, 8, 7), api.ErrArg},
		{5, 9, founds(5, 5, 6), api.ErrArg},
		{5, 9, founds(5, 6, 6), api.ErrArg},
		{5, 9, founds(6, 9, 7), api.ErrArg},
		{5, 5, founds(5), api.ErrArg},
		{0, 9, founds(-1), api.ErrArg},
		{0, 9, founds(math.MinInt), api.ErrArg},
		{0, 9, founds(math.MaxInt), api.ErrArg},
		{0, 9, founds(1, math.MaxInt), api.ErrArg},
		{0, 9, founds(math.MaxInt, math.MinInt), api.ErrArg},
		{0, most, founds(most), api.ErrArg},
		{0, most, founds(most-1, most), api.ErrArg},
		// How many.
		{0, 65, founds(row(0, 65, 1)...), api.ErrArg},
		{0, 999, founds(row(0, 65, 1)...), api.ErrArg},
		{0, 999, founds(row(0, 500, 1)...), api.ErrArg},
		// Records.
		{0, 9, badAt(founds(1), 0, badForm), api.ErrRecordForm},
		{0, 9, badAt(founds(1), 0, badTomb), api.ErrRecordForm},
		{0, 9, badAt(founds(1), 0, bigKey), api.ErrBig},
		{0, 9, badAt(founds(1), 0, bigText), api.ErrBig},
		{0, 9, badAt(founds(1, 2, 3), 2, badForm), api.ErrRecordForm},
		{0, 9, badAt(founds(1, 2, 3), 2, bigText), api.ErrBig},
		{0, 64, badAt(founds(row(0, 64, 1)...), 63, badTomb), api.ErrRecordForm},
		{5, 9, two(badForm, bigText), api.ErrRecordForm},
		{5, 9, two(bigText, badForm), api.ErrBig},
		// Two faults at once: what says ErrArg comes ahead of all records.
		{-1, 9, badAt(founds(1), 0, badForm), api.ErrArg},
		{0, most + 1, badAt(founds(1), 0, bigText), api.ErrArg},
		{9, 5, badAt(founds(7), 0, badForm), api.ErrArg},
		{5, 9, badAt(founds(4), 0, badForm), api.ErrArg},
		{5, 9, badAt(founds(5, 5), 0, bigText), api.ErrArg},
		{5, 9, badAt(founds(5, 9), 0, badForm), api.ErrArg},
		{0, 99, badAt(founds(row(0, 65, 1)...), 0, badForm), api.ErrArg},
	} {
		if s, e := Load(x.base, x.next, x.l); s != nil || e != x.want {
			t.Errorf("%d: Load(%d, %d, %v): %v, %d, want %d", i, x.base, x.next, offsets(x.l), s, e, x.want)
		}
	}
}

// TestLoadOfEachFewOffsets holds all lists of up to three offsets against the words.
func TestLoadOfEachFewOffsets(t *testing.T) {
	for base := -1; base < 4; base++ {
		for next := -1; next < 5; next++ {
			for n := range 1 + 7 + 49 + 343 {
				l := founds(fewOffsets(n)...)
				may := base >= 0 && next >= base && slices.IsSortedFunc(l, func(a, b api.Found) int {
					if a.Offset == b.Offset {
						return -1
					}
					return a.Offset - b.Offset
				})
				for _, f := range l {
					may = may && f.Offset >= base && f.Offset < next
				}
				s, e := Load(base, next, l)
				if (e == api.OK) != may || (s != nil) != may || !may && e != api.ErrArg {
					t.Fatalf("Load(%d, %d, %v): %v, %d", base, next, offsets(l), s, e)
				}
				if may && !slices.Equal(s.All(), l) {
					t.Fatalf("Load(%d, %d, %v) has %v", base, next, offsets(l), s.All())
				}
			}
		}
	}
}

// fewOffsets are the n-th list of up to three numbers from -1 to 5.
func fewOffsets(n int) []int {
	for count, lists := 0, 1; ; count, lists = count+1, lists*7 {
		if n >= lists {
			n -= lists
			continue
		}
		var l []int
		for range count {
			l = append(l, n%7-1)
			n /= 7
		}
		return l
	}
}

// P5.2

func TestAppend(t *testing.T) {
	for i, x := range []struct {
		base, there, n int
		want           int
		e              api.Errno
	}{
		{10, 0, 0, 10, api.OK},
		{10, 0, 1, 10, api.OK},
		{10, 3, 0, 13, api.OK},
		{10, 3, 2, 13, api.OK},
		{0, 0, 64, 0, api.OK},
		{0, 0, 65, 0, api.ErrSegmentFull},
		{0, 1, 63, 1, api.OK},
		{0, 1, 64, 0, api.ErrSegmentFull},
		{0, 63, 1, 63, api.OK},
		{0, 63, 2, 0, api.ErrSegmentFull},
		{0, 64, 0, 64, api.OK},
		{0, 64, 1, 0, api.ErrSegmentFull},
		{0, 64, 500, 0, api.ErrSegmentFull},
		{most, 0, 0, most, api.OK},
		{most, 0, 1, 0, api.ErrSegmentFull},
		{most - 1, 0, 1, most - 1, api.OK},
		{most - 1, 0, 2, 0, api.ErrSegmentFull},
		{most - 1, 1, 0, most, api.OK},
		{most - 1, 1, 1, 0, api.ErrSegmentFull},
		{most - 64, 0, 64, most - 64, api.OK},
		{most - 63, 0, 64, 0, api.ErrSegmentFull},
		{most - 5, 3, 2, most - 2, api.OK},
		{most - 5, 3, 3, 0, api.ErrSegmentFull},
	} {
		s, p := full(t, x.base, x.there), plainNew(x.base)
		p.append(some(0, x.there))
		before := tell(s)
		at, e := s.Append(some(x.there, x.n))
		if at != x.want || e != x.e {
			t.Errorf("%d: %d, %d", i, at, e)
		}
		p.append(some(x.there, x.n))
		match(t, s, p)
		if e != api.OK && !before.same(tell(s)) {
			t.Errorf("%d: refused, and changed: %#v", i, tell(s))
		}
	}
}

func TestAppendOfNoneIsNextWhereverItStands(t *testing.T) {
	for _, l := range [][]api.Record{nil, {}} {
		for _, s := range []*Segment{mustNew(t, 0), full(t, 7, 5), full(t, 3, 64), mustNew(t, most), mustLoad(t, 2, 900, founds(4, 5)), full(t, most-2, 2)} {
			before := tell(s)
			if at, e := s.Append(l); at != before.Next || e != api.OK || !before.same(tell(s)) {
				t.Errorf("%d, %d of %#v", at, e, before)
			}
		}
	}
}

func TestAppendRefusesRecords(t *testing.T) {
	good := numbered(1)
	for i, x := range []struct {
		base, there int
		l           []api.Record
		want        api.Errno
	}{
		{0, 3, []api.Record{badForm}, api.ErrRecordForm},
		{0, 3, []api.Record{badTomb}, api.ErrRecordForm},
		{0, 3, []api.Record{bigKey}, api.ErrBig},
		{0, 3, []api.Record{bigText}, api.ErrBig},
		{0, 3, []api.Record{good, badForm}, api.ErrRecordForm},
		{0, 3, []api.Record{good, good, bigText}, api.ErrBig},
		{0, 3, []api.Record{badForm, good}, api.ErrRecordForm},
		{0, 3, []api.Record{badForm, bigText}, api.ErrRecordForm},
		{0, 3, []api.Record{bigText, badForm}, api.ErrBig},
		{0, 3, []api.Record{good, bigKey, badTomb}, api.ErrBig},
		// A record's fault comes ahead of there being no room.
		{0, 64, []api.Record{badForm}, api.ErrRecordForm},
		{0, 64, []api.Record{good, bigText}, api.ErrBig},
		{0, 60, append(some(0, 20), badForm), api.ErrRecordForm},
		{0, 0, append(some(0, 64), bigText), api.ErrBig},
		{0, 0, append(some(0, 500), badForm), api.ErrRecordForm},
		{most, 0, []api.Record{badForm}, api.ErrRecordForm},
		{most - 1, 1, []api.Record{good, bigKey}, api.ErrBig},
	} {
		s := full(t, x.base, x.there)
		before := tell(s)
		if at, e := s.Append(x.l); at != 0 || e != x.want || !before.same(tell(s)) {
			t.Errorf("%d: %d, %d, want %d", i, at, e, x.want)
		}
		if at, e := s.Append(nil); at != before.Next || e != api.OK {
			t.Errorf("%d: then %d, %d", i, at, e)
		}
	}
}

func TestAppendBehindWhatWasLoaded(t *testing.T) {
	s, p := mustLoad(t, 5, 20, founds(6, 9)), plainNew(5)
	p.next = 20
	p.at[6], p.at[9] = numbered(6), numbered(9)
	if at, e := s.Append(some(20, 3)); at != 20 || e != api.OK {
		t.Errorf("%d, %d", at, e)
	}
	p.append(some(20, 3))
	match(t, s, p)
	// How many there are counts, not how many offsets there were.
	s = mustLoad(t, 0, 1000, founds(3))
	if at, e := s.Append(some(0, 63)); at != 1000 || e != api.OK || s.Len() != 64 {
		t.Errorf("%d, %d, %d", at, e, s.Len())
	}
	if at, e := s.Append(some(0, 1)); at != 0 || e != api.ErrSegmentFull {
		t.Errorf("%d, %d", at, e)
	}
}

// P5.3

func TestReadAndKeepAtEachCount(t *testing.T) {
	for n := range 65 {
		s, p := full(t, 40, n), plainNew(40)
		p.append(some(0, n))
		match(t, s, p)
		for _, stay := range [][]int{row(40, n, 2), row(41, n, 3), row(39, n, 7)} {
			s, p := full(t, 40, n), plainNew(40)
			p.append(some(0, n))
			if got, want := s.Keep(stay), p.keep(stay); got != want {
				t.Fatalf("%d: Keep(%v): %d, want %d", n, stay, got, want)
			}
			match(t, s, p)
		}
	}
}

func TestRead(t *testing.T) {
	s := mustLoad(t, 10, 40, founds(12, 13, 17, 20, 21, 22, 23, 30, 31, 32, 38))
	for i, x := range []struct {
		from, n int
		want    []int
	}{
		{9, 2, []int{12, 13}},
		{10, 2, []int{12, 13}},
		{-1, 1, []int{12}},
		{math.MinInt, 1, []int{12}},
		{12, 1, []int{12}},
		{13, 1, []int{13}},
		{14, 1, []int{17}},
		{16, 2, []int{17, 20}},
		{17, 2, []int{17, 20}},
		{24, 3, []int{30, 31, 32}},
		{30, 3, []int{30, 31, 32}},
		{31, 3, []int{31, 32, 38}},
		{33, 9, []int{38}},
		{38, 9, []int{38}},
		{39, 9, nil},
		{40, 9, nil},
		{41, 9, nil},
		{math.MaxInt, 9, nil},
		{10, 0, nil},
		{10, -1, nil},
		{10, math.MinInt, nil},
		{41, -1, nil},
		{10, 10, []int{12, 13, 17, 20, 21, 22, 23, 30, 31, 32}},
		{10, 11, []int{12, 13, 17, 20, 21, 22, 23, 30, 31, 32, 38}},
		{10, 12, []int{12, 13, 17, 20, 21, 22, 23, 30, 31, 32, 38}},
		{20, math.MaxInt, []int{20, 21, 22, 23, 30, 31, 32, 38}},
	} {
		if l := s.Read(x.from, x.n); !slices.Equal(l, founds(x.want...)) {
			t.Errorf("%d: Read(%d, %d): %#v", i, x.from, x.n, l)
		}
	}
}

func TestReadAtTheGreatestOffsets(t *testing.T) {
	s := full(t, most-3, 3)
	for from, want := range map[int]int{most - 4: 3, most - 3: 3, most - 2: 2, most - 1: 1, most: 0, most + 1: 0} {
		if l := s.Read(from, 9); len(l) != want || want > 0 && l[want-1].Offset != most-1 {
			t.Errorf("Read(%d, 9): %v", from, offsets(l))
		}
	}
}

func TestKeep(t *testing.T) {
	for i, x := range []struct {
		keep, want []int
	}{
		{nil, nil},
		{[]int{}, nil},
		{row(20, 10, 1), row(20, 10, 1)},
		{row(0, 100, 1), row(20, 10, 1)},
		{[]int{25}, []int{25}},
		{[]int{20}, []int{20}},
		{[]int{29}, []int{29}},
		{[]int{29, 20, 25}, []int{20, 25, 29}},
		{[]int{25, 25, 25}, []int{25}},
		{[]int{22, 21, 22, 21}, []int{21, 22}},
		{[]int{19, 30}, nil},
		{[]int{-1, math.MinInt, math.MaxInt, most, 0}, nil},
		{[]int{19, 24, 30, 28, -24}, []int{24, 28}},
	} {
		s := full(t, 20, 10)
		had := s.All()
		if n := s.Keep(x.keep); n != 10-len(x.want) {
			t.Errorf("%d: %d went", i, n)
		}
		var want []api.Found
		for _, o := range x.want {
			want = append(want, had[o-20])
		}
		if got := s.All(); !slices.Equal(got, want) || s.Len() != len(want) {
			t.Errorf("%d: %#v stay", i, got)
		}
		if base, next := s.Span(); base != 20 || next != 30 {
			t.Errorf("%d: %d, %d", i, base, next)
		}
		if n := s.Keep(x.want); n != 0 {
			t.Errorf("%d: %d went then", i, n)
		}
		if at, e := s.Append(some(0, 2)); at != 30 || e != api.OK {
			t.Errorf("%d: further ones at %d, %d", i, at, e)
		}
		if got := offsets(s.All()); !slices.Equal(got, append(slices.Clone(x.want), 30, 31)) {
			t.Errorf("%d: then %v", i, got)
		}
	}
}

func TestKeepOfNoRecords(t *testing.T) {
	for _, s := range []*Segment{mustNew(t, 5), mustLoad(t, 5, 9, nil)} {
		before := tell(s)
		if n := s.Keep([]int{5, 6, 8}); n != 0 || !before.same(tell(s)) {
			t.Errorf("%d went, %#v", n, tell(s))
		}
	}
}

func TestKeepMakesRoom(t *testing.T) {
	s := full(t, 0, 64)
	if n := s.Keep([]int{0, 63}); n != 62 {
		t.Errorf("%d went", n)
	}
	if at, e := s.Append(some(0, 63)); at != 0 || e != api.ErrSegmentFull {
		t.Errorf("one too many: %d, %d", at, e)
	}
	if at, e := s.Append(some(0, 62)); at != 64 || e != api.OK || s.Len() != 64 {
		t.Errorf("as many as there is room for: %d, %d", at, e)
	}
	if base, next := s.Span(); base != 0 || next != 126 {
		t.Errorf("%d, %d", base, next)
	}
	// What goes gives no offsets back.
	s = full(t, most-2, 2)
	s.Keep(nil)
	if at, e := s.Append(some(0, 1)); at != 0 || e != api.ErrSegmentFull || s.Len() != 0 {
		t.Errorf("at the greatest offset: %d, %d", at, e)
	}
}

// P5.4

func TestIndex(t *testing.T) {
	for n, want := range map[int][]int{
		0:  nil,
		1:  {100},
		7:  {100},
		8:  {100},
		9:  {100, 108},
		16: {100, 108},
		17: {100, 108, 116},
		63: {100, 108, 116, 124, 132, 140, 148, 156},
		64: {100, 108, 116, 124, 132, 140, 148, 156},
	} {
		if got := full(t, 100, n).Index(); !slices.Equal(got, want) {
			t.Errorf("%d: %v", n, got)
		}
		// Nor does it matter how they came.
		if got := mustLoad(t, 90, 999, founds(row(100, n, 1)...)).Index(); !slices.Equal(got, want) {
			t.Errorf("%d, loaded: %v", n, got)
		}
	}
}

func TestIndexWhereSomeAreGone(t *testing.T) {
	s := full(t, 0, 64)
	s.Keep(row(1, 32, 2))
	if got := s.Index(); !slices.Equal(got, []int{1, 17, 33, 49}) {
		t.Errorf("each second one: %v", got)
	}
	s.Keep(append(row(3, 8, 2), 61))
	if got := s.Index(); !slices.Equal(got, []int{3, 61}) {
		t.Errorf("nine: %v", got)
	}
	s.Append(some(0, 8))
	if got := s.Index(); !slices.Equal(got, []int{3, 61, 71}) {
		t.Errorf("seventeen: %v", got)
	}
	s.Keep([]int{70})
	if got := s.Index(); !slices.Equal(got, []int{70}) {
		t.Errorf("one: %v", got)
	}
	s.Keep(nil)
	if got := s.Index(); len(got) != 0 {
		t.Errorf("none: %v", got)
	}
}

func TestBytes(t *testing.T) {
	text := func(n int) string { return strings.Repeat("x", n) }
	s, sum := mustNew(t, 0), 0
	for i, x := range []struct {
		r    api.Record
		size int
	}{
		{api.Record{}, 2},
		{api.Record{Value: "v"}, 3},
		{api.Record{HasKey: true}, 3},
		{api.Record{HasKey: true, Tomb: true}, 2},
		{api.Record{HasKey: true, Key: "kk", Tomb: true}, 4},
		{api.Record{HasKey: true, Key: "k", Value: "v"}, 5},
		{api.Record{Value: text(127)}, 129},
		{api.Record{Value: text(128)}, 131},
		{api.Record{HasKey: true, Key: text(64), Value: text(512)}, 580},
	} {
		s.Append([]api.Record{x.r})
		if sum += x.size; s.Bytes() != sum || s.Len() != i+1 {
			t.Errorf("%d: %d bytes of %d records, want %d", i, s.Bytes(), s.Len(), sum)
		}
	}
	s.Keep([]int{1, 5})
	if s.Bytes() != 8 || s.Len() != 2 {
		t.Errorf("%d bytes of %d records", s.Bytes(), s.Len())
	}
	s.Keep(nil)
	if s.Bytes() != 0 || s.Len() != 0 {
		t.Errorf("%d bytes of %d records", s.Bytes(), s.Len())
	}
}

func TestCopy(t *testing.T) {
	for _, n := range []int{0, 1, 5, 8, 63, 64} {
		s := full(t, 30, n)
		before := tell(s)
		c := s.Copy()
		if c == s || !before.same(tell(c)) {
			t.Fatalf("%d: another one tells %#v", n, tell(c))
		}
		// What one does the other one does not hear of, whichever begins.
		for _, x := range []struct{ a, b *Segment }{{s.Copy(), s}, {s, c}} {
			x.a.Append(some(900, 1))
			x.a.Keep([]int{31, 32, 30 + n})
			x.a.Append(some(700, 2))
			if !before.same(tell(x.b)) {
				t.Errorf("%d: %#v, was %#v", n, tell(x.b), before)
			}
		}
		// Both go on from where the copy was made, each with its own records.
		a, b := c, c.Copy()
		p, q := plainNew(30), plainNew(30)
		p.append(some(0, n))
		q.append(some(0, n))
		for i := range 3 {
			a.Append(some(200+i, 1))
			b.Append(some(300+i, 1))
			p.append(some(200+i, 1))
			q.append(some(300+i, 1))
		}
		match(t, a, p)
		match(t, b, q)
	}
}

func TestCopyAfterKeep(t *testing.T) {
	s := full(t, 0, 20)
	s.Keep(row(0, 10, 2))
	c := s.Copy()
	s.Append(some(100, 3))
	c.Append(some(200, 3))
	if got := s.Read(20, 9); !slices.Equal(got, []api.Found{{Offset: 20, R: numbered(100)}, {Offset: 21, R: numbered(101)}, {Offset: 22, R: numbered(102)}}) {
		t.Errorf("the first one: %#v", got)
	}
	if got := c.Read(20, 9); !slices.Equal(got, []api.Found{{Offset: 20, R: numbered(200)}, {Offset: 21, R: numbered(201)}, {Offset: 22, R: numbered(202)}}) {
		t.Errorf("the copy: %#v", got)
	}
}

// P5.5

func TestWhatWasAppendedIsReadUntilItGoes(t *testing.T) {
	for seed := range 60 {
		c := chance(seed)
		base := [...]int{0, 3, 1000, most - 150}[seed%4]
		s, p := mustNew(t, base), plainNew(base)
		for range 40 {
			switch c.below(4) {
			case 0, 1:
				l := some(c.below(1000), c.below(18))
				at, e := s.Append(l)
				if want, wantE := p.append(l); at != want || e != wantE {
					t.Fatalf("%d: Append of %d: %d, %d, want %d, %d", seed, len(l), at, e, want, wantE)
				}
			case 2:
				var stay []int
				for o := base - 1; o <= p.next; o++ {
					if c.below(4) > 0 {
						stay = append(stay, o)
					}
				}
				if got, want := s.Keep(stay), p.keep(stay); got != want {
					t.Fatalf("%d: Keep: %d, want %d", seed, got, want)
				}
			case 3:
				again, e := Load(p.base, p.next, s.All())
				if e != api.OK || !tell(again).same(tell(s)) {
					t.Fatalf("%d: Load of All: %d", seed, e)
				}
				s = again.Copy()
			}
			from, n := base-2+c.below(p.next-base+5), c.below(70)-1
			if got, want := s.Read(from, n), p.read(from, n); !slices.Equal(got, want) {
				t.Fatalf("%d: Read(%d, %d): %v, want %v", seed, from, n, offsets(got), offsets(want))
			}
		}
		match(t, s, p)
	}
}

func TestReadingBeginsNearTheIndex(t *testing.T) {
	s := full(t, 0, 64)
	for _, stay := range [][]int{row(0, 64, 1), append(row(0, 20, 1), row(25, 30, 1)...), row(1, 20, 3), {7, 40, 52}} {
		s.Keep(stay)
		all, index := offsets(s.All()), s.Index()
		for from := all[0]; from < 70; from++ {
			l := s.Read(from, 1)
			if len(l) == 0 {
				continue
			}
			near := index[0]
			for _, o := range index {
				if o <= l[0].Offset {
					near = o
				}
			}
			if d := slices.Index(all, l[0].Offset) - slices.Index(all, near); d < 0 || d > 7 {
				t.Errorf("Read(%d) begins %d records behind %d", from, d, near)
			}
		}
	}
}

// R4

// roomy is a list with room behind it, and the whole of it.
func roomy[T any](l []T, behind T) ([]T, []T) {
	whole := append(slices.Clone(l), behind, behind, behind)
	return whole[:len(l)], whole
}

func TestWhatIsHandedInStays(t *testing.T) {
	l, whole := roomy(founds(3, 5, 6), api.Found{Offset: 99, R: api.Record{Value: "room"}})
	was := slices.Clone(whole)
	s := mustLoad(t, 0, 10, l)
	records, wholeRecords := roomy(some(10, 3), api.Record{Value: "room"})
	wasRecords := slices.Clone(wholeRecords)
	s.Append(records)
	keep, wholeKeep := roomy([]int{12, 5, 3, 5, 11}, -7)
	wasKeep := slices.Clone(wholeKeep)
	s.Keep(keep)
	s.Append(some(0, 40))
	s.Keep([]int{3})
	if !slices.Equal(whole, was) || !slices.Equal(wholeRecords, wasRecords) || !slices.Equal(wholeKeep, wasKeep) {
		t.Errorf("changed: %#v, %#v, %v", whole, wholeRecords, wholeKeep)
	}
}

func TestWhatIsHandedInIsNotKept(t *testing.T) {
	l, keep := founds(3, 5, 6), []int{3, 5, 10, 11}
	s := mustLoad(t, 0, 10, l)
	records := some(10, 3)
	s.Append(records)
	s.Keep(keep)
	want := append(founds(3, 5), founds(10, 11)...)
	for i := range l {
		l[i] = api.Found{Offset: 77}
	}
	for i := range records {
		records[i] = badForm
	}
	clear(keep)
	if got := s.All(); !slices.Equal(got, want) {
		t.Errorf("%#v, want %#v", got, want)
	}
}

// spoil fills a list, and the room behind it.
func spoil[T any](l []T, by T) {
	l = l[:cap(l)]
	for i := range l {
		l[i] = by
	}
}

func TestWhatIsToldIsItsOwners(t *testing.T) {
	for _, n := range []int{0, 1, 3, 9, 20, 63, 64} {
		s := full(t, 10, n)
		s.Keep(append(row(10, n, 3), row(11, n, 3)...))
		before, c := tell(s), s.Copy()
		read := s.Read(11, 5)
		all, index := s.All(), s.Index()
		lists := [][]api.Found{s.All(), s.Read(0, 64), s.Read(12, 3), s.Read(12, 0), s.Read(99, 9), c.All(), c.Read(0, 9)}
		for _, l := range lists {
			spoil(l, api.Found{Offset: -5, R: badForm})
		}
		spoil(s.Index(), -5)
		if !before.same(tell(s)) || !before.same(tell(c)) {
			t.Errorf("%d: %#v, was %#v", n, tell(s), before)
		}
		if !slices.Equal(all, before.All) || !slices.Equal(index, before.Index) || !slices.Equal(read, s.Read(11, 5)) {
			t.Errorf("%d: answers share memory", n)
		}
		// Nor does what the segment does later change what it told.
		s.Keep([]int{13})
		s.Append(some(500, 10))
		if !slices.Equal(all, before.All) || !slices.Equal(index, before.Index) || !slices.Equal(read, c.Read(11, 5)) {
			t.Errorf("%d: an answer changed later", n)
		}
		spoil(all, api.Found{Offset: -5})
		if at, e := s.Append(some(0, 1)); at != 10+n+10 || e != api.OK {
			t.Errorf("%d: %d, %d", n, at, e)
		}
	}
}

func TestReadingChangesNothing(t *testing.T) {
	s := full(t, 5, 30)
	s.Keep(row(5, 15, 2))
	before := *s
	before.l = slices.Clone(s.l)
	s.Read(9, 4)
	s.All()
	s.Index()
	s.Span()
	s.Bytes()
	s.Len()
	s.Copy()
	if !reflect.DeepEqual(before, *s) {
		t.Errorf("%#v, was %#v", *s, before)
	}
}

// heldBytes is how much memory is in use.
func heldBytes() int64 {
	runtime.GC()
	var m runtime.MemStats
	runtime.ReadMemStats(&m)
	return int64(m.HeapAlloc)
}

// TestPiecesOfGreatTextsAreNotKept hands in short texts that are pieces of great ones.
func TestPiecesOfGreatTextsAreNotKept(t *testing.T) {
	const great = 1 << 22
	before := heldBytes()
	s := mustLoad(t, 0, 1, []api.Found{{R: api.Record{HasKey: true, Key: strings.Repeat("k", great)[:1], Value: "v"}}})
	s.Append([]api.Record{{Value: strings.Repeat("v", great)[:2]}})
	if more := heldBytes() - before; more > great/2 {
		t.Errorf("%d bytes are held", more)
	}
	if s.Bytes() != 9 {
		t.Errorf("%d", s.Bytes())
	}
}

// TestWhatWentIsNotKept lets the only copies of records go.
func TestWhatWentIsNotKept(t *testing.T) {
	var all []*Segment
	for range 200 {
		s := mustNew(t, 0)
		for range 64 {
			s.Append([]api.Record{{Value: strings.Repeat("v", 512)}})
		}
		all = append(all, s)
	}
	before := heldBytes()
	for _, s := range all {
		s.Keep([]int{63})
	}
	if less := before - heldBytes(); less < 200*60*512 {
		t.Errorf("%d bytes went", less)
	}
	runtime.KeepAlive(all)
}
