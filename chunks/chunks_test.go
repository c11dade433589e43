package chunks

import (
	"encoding/binary"
	"hash/crc32"
	"math"
	"runtime"
	"slices"
	"strconv"
	"strings"
	"testing"

	"stagecoach/api"
)

const most = 1 << 40

// plainNumber is a number's bytes.
func plainNumber(n uint64) string {
	return string(binary.AppendUvarint(nil, n))
}

func plainBytes(s string) string {
	return plainNumber(uint64(len(s))) + s
}

// plainRecord are the bytes of a record that may be.
func plainRecord(r api.Record) string {
	switch {
	case r.Tomb:
		return "\x03" + plainBytes(r.Key)
	case r.HasKey:
		return "\x01" + plainBytes(r.Key) + plainBytes(r.Value)
	}
	return "\x00" + plainBytes(r.Value)
}

// plainText is the text of a segment that may be.
func plainText(x api.Seg) string {
	s := plainNumber(uint64(x.Base)) + plainNumber(uint64(x.Next)) + plainNumber(uint64(len(x.L)))
	for i, f := range x.L {
		least := x.Base
		if i > 0 {
			least = x.L[i-1].Offset + 1
		}
		s += plainNumber(uint64(f.Offset-least)) + plainRecord(f.R)
	}
	return s
}

func plainDigest(s string) uint64 {
	back := []byte(s)
	slices.Reverse(back)
	return uint64(crc32.ChecksumIEEE([]byte(s)))*(1<<32) + uint64(crc32.ChecksumIEEE(back))
}

// plainChunk are the bytes of a chunk, right or not.
func plainChunk(c api.Chunk) string {
	s := plainNumber(uint64(c.I)) + plainNumber(uint64(c.N)) + plainNumber(c.Digest) + plainBytes(c.Body)
	return s + string(binary.LittleEndian.AppendUint32(nil, crc32.ChecksumIEEE([]byte(c.Body))))
}

// reader reads without asking much: whether what it read may be is seen by putting it to bytes again.
type reader struct {
	s   string
	bad bool
}

func (r *reader) number() uint64 {
	n, size := binary.Uvarint([]byte(r.s))
	if size < 1 {
		r.bad = true
		return 0
	}
	r.s = r.s[size:]
	return n
}

func (r *reader) bytes(n uint64) string {
	if r.bad || n > uint64(len(r.s)) {
		r.bad = true
		return ""
	}
	s := r.s[:n]
	r.s = r.s[n:]
	return s
}

func (r *reader) record() api.Record {
	switch r.bytes(1) {
	case "\x00":
		return api.Record{Value: r.bytes(r.number())}
	case "\x01":
		key := r.bytes(r.number())
		return api.Record{HasKey: true, Key: key, Value: r.bytes(r.number())}
	case "\x03":
		return api.Record{HasKey: true, Tomb: true, Key: r.bytes(r.number())}
	}
	r.bad = true
	return api.Record{}
}

// plainParse is the segment whose text it is, and whether there is one.
func plainParse(s string) (api.Seg, bool) {
	r := &reader{s: s}
	base, next, count := r.number(), r.number(), r.number()
	if r.bad || base > next || next > most || count > 64 {
		return api.Seg{}, false
	}
	x := api.Seg{Base: int(base), Next: int(next)}
	least := base
	for range count {
		gap := r.number()
		f := api.Found{Offset: int(least + gap), R: r.record()}
		if r.bad || gap >= next-least || len(f.R.Key) > 64 || len(f.R.Value) > 512 {
			return api.Seg{}, false
		}
		x.L, least = append(x.L, f), least+gap+1
	}
	if plainText(x) != s {
		return api.Seg{}, false
	}
	return x, true
}

// plainGet is the right chunk whose bytes they are, and whether there is one.
func plainGet(s string) (api.Chunk, bool) {
	r := &reader{s: s}
	i, n, digest := r.number(), r.number(), r.number()
	body := r.bytes(r.number())
	c := api.Chunk{I: int(i), N: int(n), Digest: digest, Body: body}
	if r.bad || n > 4096 || i >= n || len(body) > 4096 || body == "" && n > 1 || plainChunk(c) != s {
		return api.Chunk{}, false
	}
	return c, true
}

// plainJoiner is a joiner as the chapter's words say it: the chunks that it has, and each answer made by going over them.
type plainJoiner struct {
	digest uint64
	has    []api.Chunk
}

func (p *plainJoiner) take(c api.Chunk) api.Errno {
	if _, ok := plainGet(plainChunk(c)); !ok {
		return 70
	}
	if c.Digest != p.digest {
		return 71
	}
	for _, h := range p.has {
		if h.N != c.N || h.I == c.I && h.Body != c.Body {
			return 71
		}
	}
	if !slices.Contains(p.has, c) {
		p.has = append(p.has, c)
	}
	return 0
}

func (p *plainJoiner) missing() []int {
	var l []int
	if len(p.has) > 0 {
		for i := range p.has[0].N {
			if !slices.ContainsFunc(p.has, func(c api.Chunk) bool { return c.I == i }) {
				l = append(l, i)
			}
		}
	}
	return l
}

func (p *plainJoiner) whole() (string, bool) {
	if len(p.has) == 0 || len(p.missing()) > 0 {
		return "", false
	}
	slices.SortFunc(p.has, func(a, b api.Chunk) int { return a.I - b.I })
	s := ""
	for _, c := range p.has {
		s += c.Body
	}
	if plainDigest(s) != p.digest {
		p.has = nil
		return "", false
	}
	return s, true
}

// match tells where a joiner and its plain one differ. Asking for the whole may change both, alike.
func match(t *testing.T, j *Joiner, p *plainJoiner) {
	t.Helper()
	for range 2 {
		if got, want := j.Missing(), p.missing(); !slices.Equal(got, want) {
			t.Fatalf("missing %v, want %v", got, want)
		}
		got, is := j.Whole()
		if want, wantIs := p.whole(); got != want || is != wantIs {
			t.Fatalf("whole %q, %v, want %q, %v", got, is, want, wantIs)
		}
	}
}

// numbered is a record that is like no other one near it, of one of three forms.
func numbered(n int) api.Record {
	key := "k" + strconv.Itoa(n)
	switch n % 3 {
	case 0:
		return api.Record{Value: "plain" + strconv.Itoa(n)}
	case 1:
		return api.Record{HasKey: true, Key: key, Value: strconv.Itoa(n)}
	default:
		return api.Record{HasKey: true, Key: key, Tomb: true}
	}
}

// seg is a segment of records, numbered as their offsets are.
func seg(base, next int, offsets ...int) api.Seg {
	x := api.Seg{Base: base, Next: next}
	for _, o := range offsets {
		x.L = append(x.L, api.Found{Offset: o, R: numbered(o & 1023)})
	}
	return x
}

// of is a segment of records, one behind the other.
func of(base int, l ...api.Record) api.Seg {
	x := api.Seg{Base: base, Next: base + len(l)}
	for i, r := range l {
		x.L = append(x.L, api.Found{Offset: base + i, R: r})
	}
	return x
}

// row are n numbers, from one on, each one behind the one ahead of it.
func row(from, n int) []int {
	var l []int
	for i := range n {
		l = append(l, from+i)
	}
	return l
}

func sameSeg(a, b api.Seg) bool {
	return a.Base == b.Base && a.Next == b.Next && slices.Equal(a.L, b.L)
}

// noSeg tells whether a segment is the zero value.
func noSeg(x api.Seg) bool {
	return x.Base == 0 && x.Next == 0 && x.L == nil
}

func bodies(l []api.Chunk) []string {
	var out []string
	for _, c := range l {
		out = append(out, c.Body)
	}
	return out
}

func mustSplit(t *testing.T, s string, size int) []api.Chunk {
	t.Helper()
	l, e := Split(s, size)
	if e != api.OK {
		t.Fatalf("Split of %d bytes by %d: %d", len(s), size, e)
	}
	return l
}

// joined is a joiner that has taken chunks, and its plain one.
func joined(t *testing.T, digest uint64, l ...api.Chunk) (*Joiner, *plainJoiner) {
	t.Helper()
	j, p := New(digest), &plainJoiner{digest: digest}
	for _, c := range l {
		if e := j.Take(c); e != api.OK || p.take(c) != api.OK {
			t.Fatalf("Take of %v: %d", c, e)
		}
	}
	return j, p
}

// chance is a row of numbers, always the same one, that look like chance.
type chance uint64

func (c *chance) below(n int) int {
	*c = *c*6364136223846793005 + 1442695040888963407
	return int(uint64(*c>>33) % uint64(n))
}

// text is one of n bytes.
func (c *chance) text(n int) string {
	b := make([]byte, n)
	for i := range b {
		b[i] = byte(c.below(256))
	}
	return string(b)
}

var (
	badForm = api.Record{Key: "a"}
	badTomb = api.Record{HasKey: true, Tomb: true, Value: "v"}
	bigKey  = api.Record{HasKey: true, Key: strings.Repeat("k", 65)}
	bigText = api.Record{Value: strings.Repeat("v", 513)}
	widest  = api.Record{HasKey: true, Key: strings.Repeat("k", 64), Value: strings.Repeat("v", 512)}
)

// The chapter's examples.

func TestExamples(t *testing.T) {
	l := mustSplit(t, "abcde", 2)
	if got := bodies(l); !slices.Equal(got, []string{"ab", "cd", "e"}) {
		t.Errorf("Split: %q", got)
	}
	j := New(Digest("abcde"))
	for _, i := range []int{2, 0} {
		if e := j.Take(l[i]); e != api.OK {
			t.Errorf("Take of %d: %d", i, e)
		}
	}
	if got := j.Missing(); !slices.Equal(got, []int{1}) {
		t.Errorf("missing %v", got)
	}
}

func TestNumbersOfApi(t *testing.T) {
	if api.ErrArg != 1 || api.ErrBig != 2 || api.ErrRecordForm != 30 || api.ErrChunksForm != 70 || api.ErrChunksOther != 71 || api.MaxSegment != 64 || api.MaxOffset != most {
		t.Error("errors and limits are not the chapter's")
	}
}

// P7.1

// segs are segments that may be.
func segs() []api.Seg {
	return []api.Seg{
		{},
		seg(7, 7),
		seg(7, 900),
		seg(most, most),
		seg(0, most),
		seg(5, 6, 5),
		seg(5, 90, 5),
		seg(5, 90, 50),
		seg(5, 90, 89),
		seg(0, most, most-1),
		seg(most-1, most, most-1),
		seg(0, 300, 0, 1, 2, 5, 133, 134, 263, 299),
		seg(9, 400, 137, 138, 300),
		seg(1, 65, row(1, 64)...),
		seg(100, most, append([]int{200}, row(most-63, 63)...)...),
		of(3, api.Record{}, api.Record{HasKey: true}, api.Record{HasKey: true, Tomb: true}),
		of(126, api.Record{Value: "a"}, widest, widest, api.Record{HasKey: true, Key: "\x00\x80\xff", Value: "\x00\xff"}),
	}
}

func TestText(t *testing.T) {
	for i, x := range segs() {
		want := plainText(x)
		s, e := Text(x)
		if s != want || e != api.OK {
			t.Errorf("%d: %x, %d, want %x", i, s, e, want)
		}
		got, e := Parse(s)
		if !sameSeg(got, x) || e != api.OK {
			t.Errorf("%d: Parse: %v, %d", i, got, e)
		}
	}
	for i, x := range []struct {
		s    api.Seg
		want string
	}{
		{api.Seg{}, "\x00\x00\x00"},
		{api.Seg{Base: 300, Next: 301}, "\xac\x02\xad\x02\x00"},
		{api.Seg{Base: most, Next: most}, "\x80\x80\x80\x80\x80\x20\x80\x80\x80\x80\x80\x20\x00"},
		{of(5, api.Record{Value: "v"}), "\x05\x06\x01\x00\x00\x01v"},
		{api.Seg{Base: 5, Next: 400, L: []api.Found{{Offset: 8, R: api.Record{HasKey: true, Key: "k", Tomb: true}}, {Offset: 9, R: api.Record{HasKey: true, Key: "k"}}, {Offset: 310}}}, "\x05\x90\x03\x03\x03\x03\x01k\x00\x01\x01k\x00\xac\x02\x00\x00"},
	} {
		if s, e := Text(x.s); s != x.want || e != api.OK {
			t.Errorf("%d: %x, %d, want %x", i, s, e, x.want)
		}
		if got, e := Parse(x.want); !sameSeg(got, x.s) || e != api.OK {
			t.Errorf("%d: Parse: %v, %d", i, got, e)
		}
	}
}

func TestTextRefuses(t *testing.T) {
	for i, x := range []struct {
		s    api.Seg
		want api.Errno
	}{
		{seg(-1, 5), api.ErrArg},
		{seg(math.MinInt, 5), api.ErrArg},
		{seg(most+1, most+1), api.ErrArg},
		{seg(0, most+1), api.ErrArg},
		{seg(-2, -1), api.ErrArg},
		{seg(0, -1), api.ErrArg},
		{seg(5, 4), api.ErrArg},
		{seg(5, 9, 6, 6), api.ErrArg},
		{seg(5, 9, 7, 6), api.ErrArg},
		{seg(5, 9, 4), api.ErrArg},
		{seg(5, 9, -1), api.ErrArg},
		{seg(5, 9, 9), api.ErrArg},
		{seg(5, 9, 10), api.ErrArg},
		{seg(5, 5, 5), api.ErrArg},
		{seg(0, 65, row(0, 65)...), api.ErrArg},
		{seg(0, 900, row(0, 65)...), api.ErrArg},
		{of(0, badForm), api.ErrRecordForm},
		{of(0, api.Record{Tomb: true}), api.ErrRecordForm},
		{of(0, api.Record{}, badTomb), api.ErrRecordForm},
		{of(0, bigKey), api.ErrBig},
		{of(0, api.Record{}, api.Record{}, bigText), api.ErrBig},
		// Of two faults the one of numbers, then the first record's.
		{api.Seg{Base: 1, L: []api.Found{{Offset: 1, R: badForm}}}, api.ErrArg},
		{api.Seg{Next: 1, L: []api.Found{{R: bigText}, {Offset: 1}}}, api.ErrArg},
		{api.Seg{Next: 9, L: []api.Found{{Offset: 2, R: badTomb}, {Offset: 2}}}, api.ErrArg},
		{of(0, append(make([]api.Record, 64), badForm)...), api.ErrArg},
		{of(most, bigText), api.ErrArg},
		{of(0, badForm, bigText), api.ErrRecordForm},
		{of(0, bigKey, badForm), api.ErrBig},
		{of(0, api.Record{}, bigText, badTomb), api.ErrBig},
	} {
		if s, e := Text(x.s); s != "" || e != x.want {
			t.Errorf("%d: %x, %d, want %d", i, s, e, x.want)
		}
	}
}

// refused tells which of some texts, none of them a segment's, is taken for one.
func refused(t *testing.T, name string, texts ...string) {
	t.Helper()
	for i, s := range texts {
		if _, ok := plainParse(s); ok {
			t.Errorf("%s %d: %x is a segment's", name, i, s)
		}
		if x, e := Parse(s); !noSeg(x) || e != api.ErrChunksForm {
			t.Errorf("%s %d: Parse of %x: %v, %d", name, i, s, x, e)
		}
	}
}

func TestParseOfBeginningsAndOfMore(t *testing.T) {
	refused(t, "empty", "")
	for _, x := range segs() {
		s := plainText(x)
		for n := range len(s) {
			if got, e := Parse(s[:n]); !noSeg(got) || e != api.ErrChunksForm {
				t.Errorf("the first %d bytes of %x: %v, %d", n, s, got, e)
			}
		}
		refused(t, "more", s+"\x00", s+"\x01", s+"\x80", s+"\xff", s+s, "\x00"+s, s+strings.Repeat("\x00", 100))
	}
}

func TestParseOfOneByteChanged(t *testing.T) {
	for i, x := range segs() {
		s := plainText(x)
		for at := range len(s) {
			for by := range 256 {
				// Of long texts some changes will do, but all of those at their beginning.
				if s[at] == byte(by) || at > 20 && (at*7+by)%61 != 0 {
					continue
				}
				z := s[:at] + string([]byte{byte(by)}) + s[at+1:]
				want, ok := plainParse(z)
				got, e := Parse(z)
				if ok && (e != api.OK || !sameSeg(got, want)) || !ok && (e != api.ErrChunksForm || !noSeg(got)) {
					t.Fatalf("%d: Parse of %x: %v, %d, want %v, %v", i, z, got, e, want, ok)
				}
			}
		}
	}
}

func TestParseRefusesNumbers(t *testing.T) {
	refused(t, "not the shortest form",
		"\x80\x00\x00\x00", "\x00\x80\x00\x00", "\x00\x00\x80\x00",
		"\x85\x00\x06\x01\x00\x00\x01v", "\x05\x86\x00\x01\x00\x00\x01v", "\x05\x06\x81\x00\x00\x00\x01v",
		"\x05\x06\x01\x80\x00\x00\x01v", "\x05\x06\x01\x00\x00\x81\x00v", "\x05\x06\x01\x00\x01\x81\x00k\x00",
		"\x05\x06\x81\x80\x00\x00\x00\x01v")
	refused(t, "a count that is another one",
		"\x05\x09\x00\x00\x00\x01v", "\x05\x09\x02\x00\x00\x01v", "\x05\x09\x01\x00\x00\x01v\x00\x00\x01v", "\x05\x09\x01", "\x05\x09\x40",
		"\x05\x09"+plainNumber(math.MaxUint64), "\x05\x09"+plainNumber(1<<63), "\x05\x09"+plainNumber(1<<32)+"\x00\x00\x00",
		"\x00\xff\x01\x41"+strings.Repeat("\x00\x00\x00", 65), "\x00\xff\x01\x3f"+strings.Repeat("\x00\x00\x00", 64), "\x00\xff\x01\x40"+strings.Repeat("\x00\x00\x00", 63))
	refused(t, "an offset at the next one or beyond it",
		"\x05\x05\x01\x00\x00\x00", "\x05\x06\x01\x01\x00\x00", "\x05\x09\x01\x04\x00\x00", "\x05\x09\x01\x05\x00\x00", "\x05\x09\x02\x02\x00\x00\x01\x00\x00", "\x05\x07\x03\x00\x00\x00\x00\x00\x00\x00\x00\x00")
	refused(t, "a next one that is below the base", "\x01\x00\x00", "\x0a\x09\x00", plainNumber(most)+plainNumber(most-1)+"\x00", "\x05\x04\x01\x00\x00\x00")
	// What stands behind the fault can't be read on from the beginning, though it would do there.
	refused(t, "no gap", "\x00\x05\x01\xff\xff\xff\xff", "\x00\x05\x01\x80\x00\x00\x00")
	refused(t, "no record", "\x00\x03\x02\x00\x02")
	refused(t, "no records' bytes",
		"\x05\x06\x01\x00\x02\x00", "\x05\x06\x01\x00\x04\x00", "\x05\x06\x01\x00\xff\x00", "\x05\x06\x01\x00\x02\x01k",
		"\x05\x06\x01\x00\x00\x81\x04"+strings.Repeat("v", 513), "\x05\x06\x01\x00\x03\x41"+strings.Repeat("k", 65), "\x05\x06\x01\x00\x01\x41"+strings.Repeat("k", 65)+"\x00")
}

// Numbers that would go beyond the largest one, or round to one that may be.
func TestParseRefusesGreatNumbers(t *testing.T) {
	great := []uint64{most + 1, most + 5, 1 << 41, 1<<62 - 1, 1 << 62, 1<<63 - 1, 1 << 63, 1<<63 + 5, math.MaxUint64 - most, math.MaxUint64 - 5, math.MaxUint64 - 1, math.MaxUint64}
	for _, n := range great {
		b := plainNumber(n)
		refused(t, "a great base", b+"\x00\x00", b+"\x05\x00", b+b+"\x00", b+plainNumber(most)+"\x00", b+"\x05\x01\x06\x00\x00", b+plainNumber(n+1)+"\x01\x00\x00\x00", b+"\x05\x01"+plainNumber(-n)+"\x00\x00")
		refused(t, "a great next one", "\x00"+b+"\x00", plainNumber(most)+b+"\x00", "\x00"+b+"\x01\x00\x00\x00", "\x00"+b+"\x01"+plainNumber(most)+"\x00\x00")
		refused(t, "a great gap", "\x00\x09\x01"+b+"\x00\x00", "\x05\x09\x01"+b+"\x00\x00", "\x05\x09\x02\x02\x00\x00"+b+"\x00\x00",
			"\x05"+plainNumber(most)+"\x02\x02\x00\x00"+b+"\x00\x00", "\x05\x09\x02\x02\x00\x00"+plainNumber(-n)+"\x00\x00")
		refused(t, "two great gaps", "\x00\x09\x02"+b+"\x00\x00"+b+"\x00\x00", "\x00\x09\x02"+b+"\x00\x00"+plainNumber(-n)+"\x00\x00", "\x05\x09\x02"+b+"\x00\x00"+plainNumber(-n-1)+"\x00\x00")
		refused(t, "a great count", "\x05\x09"+b, "\x05\x09"+b+"\x00\x00\x00")
	}
	// Many gaps, each of which may be.
	refused(t, "many gaps", "\x00"+plainNumber(most)+"\x40"+strings.Repeat(plainNumber(most)+"\x00\x00", 64), plainNumber(most)+plainNumber(most)+"\x01\x00\x00\x00")
	refused(t, "a number of more than 64 bits", strings.Repeat("\xff", 9)+"\x02\x00\x00", "\x00"+strings.Repeat("\x80", 9)+"\x02\x00", "\x00\x00"+strings.Repeat("\x80", 10)+"\x01")
}

// What can't be a segment's as its count is too great is refused without reading on.
func TestParseOfAGreatCountIsCheap(t *testing.T) {
	for _, s := range []string{"\x05\x09" + plainNumber(1<<40), "\x05" + plainNumber(1<<20) + plainNumber(50000) + strings.Repeat("\x00\x00\x00", 50000)} {
		refused(t, "a great count", s)
		if n := testing.AllocsPerRun(10, func() { Parse(s) }); n > 20 {
			t.Errorf("%v pieces of memory", n)
		}
	}
}

func TestDigest(t *testing.T) {
	for s, want := range map[string]uint64{"": 0, "123456789": 0xcbf43926<<32 | uint64(crc32.ChecksumIEEE([]byte("987654321"))), "a": 0xe8b7be43<<32 | 0xe8b7be43, "\x00": 0xd202ef8d_d202ef8d} {
		if got := Digest(s); got != want {
			t.Errorf("%q: %x, want %x", s, got, want)
		}
	}
	c := chance(3)
	for n := range 300 {
		s := c.text(n)
		if got, want := Digest(s), plainDigest(s); got != want {
			t.Errorf("%q: %x, want %x", s, got, want)
		}
	}
	// Texts that differ in one byte, in the order of their bytes, or have the same sum, forward or backward.
	was := map[uint64]string{}
	for _, s := range []string{"", "a", "b", "ab", "ba", "aa", "bb", "abc", "acb", "bac", "bca", "cab", "cba", "\x00", "\x00\x00", "\x00a", "a\x00", "plumless", "buckeroo", "sselmulp", "oorekcub"} {
		d := Digest(s)
		if other, there := was[d]; there {
			t.Errorf("%q and %q: %x", s, other, d)
		}
		was[d] = s
	}
	s := c.text(100)
	for at := range s {
		for by := range 256 {
			if z := s[:at] + string([]byte{byte(by)}) + s[at+1:]; z != s && Digest(z) == Digest(s) {
				t.Errorf("byte %d does not matter", at)
			}
		}
	}
}

// P7.2

func TestSplit(t *testing.T) {
	long := chance(5)
	big := long.text(4096)
	for i, x := range []struct {
		s    string
		size int
		want []string
	}{
		{"", 1, []string{""}},
		{"", 4096, []string{""}},
		{"a", 1, []string{"a"}},
		{"a", 2, []string{"a"}},
		{"a", 4096, []string{"a"}},
		{"abcd", 1, []string{"a", "b", "c", "d"}},
		{"abcd", 2, []string{"ab", "cd"}},
		{"abcde", 2, []string{"ab", "cd", "e"}},
		{"abcd", 3, []string{"abc", "d"}},
		{"abcd", 4, []string{"abcd"}},
		{"abcd", 5, []string{"abcd"}},
		{"abcdef", 3, []string{"abc", "def"}},
		{"abcdefg", 3, []string{"abc", "def", "g"}},
		{"\x00\xff\x00", 2, []string{"\x00\xff", "\x00"}},
		{"öö", 1, []string{"\xc3", "\xb6", "\xc3", "\xb6"}},
		{big, 4096, []string{big}},
		{big + "x", 4096, []string{big, "x"}},
		{big[:4095], 4096, []string{big[:4095]}},
		{big, 4095, []string{big[:4095], big[4095:]}},
	} {
		l := mustSplit(t, x.s, x.size)
		if !slices.Equal(bodies(l), x.want) {
			t.Errorf("%d: %q", i, bodies(l))
		}
		for k, c := range l {
			if want := (api.Chunk{I: k, N: len(x.want), Digest: plainDigest(x.s), Body: c.Body}); c != want {
				t.Errorf("%d: %v, want %v", i, c, want)
			}
		}
	}
}

func TestSplitUpToTheMost(t *testing.T) {
	c := chance(6)
	s := c.text(4096 * 3)
	for _, x := range []struct{ n, size, want int }{{4096, 1, 4096}, {4095, 1, 4095}, {4096*3 - 2, 3, 4096}, {4096 * 3, 3, 4096}, {4095 * 3, 3, 4095}, {4095*2 + 1, 2, 4096}, {4096 * 2, 2, 4096}} {
		l := mustSplit(t, s[:x.n], x.size)
		if len(l) != x.want || strings.Join(bodies(l), "") != s[:x.n] {
			t.Errorf("%d bytes by %d: %d chunks", x.n, x.size, len(l))
		}
		for i, k := range l {
			if k.I != i || k.N != x.want || i+1 < len(l) && len(k.Body) != x.size {
				t.Fatalf("%d bytes by %d: %v at %d", x.n, x.size, k, i)
			}
		}
	}
	for _, x := range []struct{ n, size int }{{4097, 1}, {4096*2 + 1, 2}, {4096*3 - 1, 2}, {9000, 2}, {4096 * 3, 1}} {
		if l, e := Split(s[:x.n], x.size); l != nil || e != api.ErrBig {
			t.Errorf("%d bytes by %d: %d chunks, %d", x.n, x.size, len(l), e)
		}
	}
	// The greatest text of all.
	great := strings.Repeat("0123456789abcdef", 1<<20)
	if l := mustSplit(t, great, 4096); len(l) != 4096 || l[4095].Body != great[:4096] {
		t.Errorf("%d chunks", len(l))
	}
	if l, e := Split(great+"x", 4096); l != nil || e != api.ErrBig {
		t.Errorf("%d chunks, %d", len(l), e)
	}
	if l, e := Split(great, 4095); l != nil || e != api.ErrBig {
		t.Errorf("%d chunks, %d", len(l), e)
	}
}

func TestSplitRefusesSizes(t *testing.T) {
	for _, size := range []int{0, -1, -4096, math.MinInt, 4097, 4098, math.MaxInt} {
		// Of two faults the size's.
		for _, s := range []string{"", "a", strings.Repeat("a", 4097), strings.Repeat("a", 4096*4096+1)} {
			if l, e := Split(s, size); l != nil || e != api.ErrArg {
				t.Errorf("%d bytes by %d: %d chunks, %d", len(s), size, len(l), e)
			}
		}
	}
}

// rights are chunks that are right.
func rights() []api.Chunk {
	big := strings.Repeat("xy", 2048)
	return []api.Chunk{
		{N: 1},
		{N: 1, Digest: math.MaxUint64},
		{N: 1, Body: "a"},
		{N: 1, Body: big},
		{N: 2, Digest: 1, Body: "a"},
		{I: 1, N: 2, Digest: 300, Body: "\x00"},
		{I: 1, N: 2, Digest: 1 << 63, Body: big},
		{I: 126, N: 128, Digest: 127, Body: "abc"},
		{I: 128, N: 129, Digest: 128, Body: strings.Repeat("b", 128)},
		{N: 4096, Digest: 0x0123456789abcdef, Body: "abc"},
		{I: 4095, N: 4096, Digest: 1<<56 - 1, Body: "\xff\xfe"},
	}
}

// wrongs are chunks that are not.
func wrongs() []api.Chunk {
	big := strings.Repeat("x", 4097)
	return []api.Chunk{
		{},
		{Body: "a"},
		{N: -1, Body: "a"},
		{I: -2, N: -1, Body: "a"},
		{N: math.MinInt, Body: "a"},
		{N: 4097, Body: "a"},
		{I: 4096, N: 4097, Body: "a"},
		{N: math.MaxInt, Body: "a"},
		{N: 1 << 32, Body: "a"},
		{N: 1<<32 + 1, Body: "a"},
		{I: -1, N: 1},
		{I: -1, N: 4096, Body: "a"},
		{I: math.MinInt, N: 2, Body: "a"},
		{I: 1, N: 1},
		{I: 1, N: 1, Body: "a"},
		{I: 2, N: 2, Body: "a"},
		{I: 3, N: 2, Body: "a"},
		{I: 4096, N: 4096, Body: "a"},
		{I: math.MaxInt, N: 4096, Body: "a"},
		{I: 1 << 32, N: 2, Body: "a"},
		{N: 2},
		{I: 1, N: 2},
		{I: 4095, N: 4096},
		{N: 1, Body: big},
		{I: 1, N: 2, Body: big},
		{N: 1, Body: strings.Repeat("x", 1<<20)},
	}
}

func TestPut(t *testing.T) {
	for i, c := range rights() {
		s, e := Put(c)
		if s != plainChunk(c) || e != api.OK {
			t.Errorf("%d: %x, %d", i, s, e)
		}
		if got, e := Get(s); got != c || e != api.OK {
			t.Errorf("%d: Get: %v, %d", i, got, e)
		}
	}
	if s, _ := Put(api.Chunk{I: 1, N: 3, Digest: 300, Body: "a"}); s != "\x01\x03\xac\x02\x01a\x43\xbe\xb7\xe8" {
		t.Errorf("%x", s)
	}
}

func TestPutAndGetRefuseWrongChunks(t *testing.T) {
	for i, c := range wrongs() {
		if s, e := Put(c); s != "" || e != api.ErrChunksForm {
			t.Errorf("%d: Put: %x, %d", i, s, e)
		}
		if got, e := Get(plainChunk(c)); got != (api.Chunk{}) || e != api.ErrChunksForm {
			t.Errorf("%d: Get: %v, %d", i, got, e)
		}
	}
}

// sameGet tells where Get and the plain one differ.
func sameGet(t *testing.T, s string) {
	t.Helper()
	want, ok := plainGet(s)
	got, e := Get(s)
	if got != want || ok != (e == api.OK) || !ok && e != api.ErrChunksForm {
		t.Fatalf("Get of %x: %v, %d, want %v, %v", s, got, e, want, ok)
	}
}

func TestGetOfBeginningsAndOfMore(t *testing.T) {
	for _, c := range rights() {
		s := plainChunk(c)
		for n := range len(s) {
			if got, e := Get(s[:n]); got != (api.Chunk{}) || e != api.ErrChunksForm {
				t.Errorf("the first %d bytes of %v: %v, %d", n, c, got, e)
			}
		}
		for _, more := range []string{"\x00", "\x01", "\xff", s} {
			if got, e := Get(s + more); got != (api.Chunk{}) || e != api.ErrChunksForm {
				t.Errorf("%v and %x: %v, %d", c, more, got, e)
			}
		}
	}
}

func TestGetOfOneByteChanged(t *testing.T) {
	for _, c := range rights() {
		s := plainChunk(c)
		for at := range len(s) {
			for by := range 256 {
				// Of long texts some changes will do, but all of those at their beginning and end.
				if s[at] == byte(by) || at > 20 && at < len(s)-5 && (at*7+by)%997 != 0 {
					continue
				}
				z := s[:at] + string([]byte{byte(by)}) + s[at+1:]
				sameGet(t, z)
				// In the body and its sum no change may be.
				if _, e := Get(z); e == api.OK && at >= len(s)-4-len(c.Body) {
					t.Fatalf("%x at %d of %x: taken", by, at, s)
				}
			}
		}
	}
}

func TestGetRefusesNumbers(t *testing.T) {
	frame := "\x01a\x43\xbe\xb7\xe8"
	sameGet(t, "\x00\x01\x00"+frame)
	great := []uint64{4096, 4097, 1 << 12, 1 << 32, 1 << 62, 1<<63 - 1, 1 << 63, 1<<63 + 1, math.MaxUint64 - 1, math.MaxUint64}
	for _, n := range great {
		b := plainNumber(n)
		for _, s := range []string{b + "\x01\x00" + frame, b + "\x80\x20\x00" + frame, b + b + "\x00" + frame, "\x00" + b + "\x00" + frame, plainNumber(n-1) + b + "\x00" + frame, "\x00\x01" + b + frame, "\x00\x01\x00" + b + "a\x43\xbe\xb7\xe8"} {
			sameGet(t, s)
		}
	}
	for _, s := range []string{
		// Numbers that are not in their shortest form.
		"\x80\x00\x01\x00" + frame, "\x00\x81\x00\x00" + frame, "\x00\x01\x80\x00" + frame, "\x00\x01\x00\x81\x00a\x43\xbe\xb7\xe8",
		// A body's length that is another one, a sum that is another one, turned over or missing.
		"\x00\x01\x00\x02a\x43\xbe\xb7\xe8", "\x00\x01\x00\x00a\x43\xbe\xb7\xe8", "\x00\x01\x00\x01a\xe8\xb7\xbe\x43", "\x00\x01\x00\x01a\x00\x00\x00\x00", "\x00\x01\x00\x01a",
		"", "\x00", "\x00\x01", "\x00\x01\x00", frame,
	} {
		sameGet(t, s)
		if got, e := Get(s); got != (api.Chunk{}) || e != api.ErrChunksForm {
			t.Errorf("%x: %v, %d", s, got, e)
		}
	}
}

// P7.3

func TestTake(t *testing.T) {
	d := Digest("abcdef")
	chunk := func(i, n int, body string) api.Chunk {
		return api.Chunk{I: i, N: n, Digest: d, Body: body}
	}
	other := func(c api.Chunk) api.Chunk {
		c.Digest++
		return c
	}
	big := strings.Repeat("x", 4097)
	for i, x := range []struct {
		there []api.Chunk
		c     api.Chunk
		want  api.Errno
	}{
		// The first one says how many there are.
		{nil, chunk(0, 1, ""), api.OK},
		{nil, chunk(0, 1, "abcdef"), api.OK},
		{nil, chunk(2, 3, "ef"), api.OK},
		{nil, chunk(4095, 4096, "ef"), api.OK},
		{nil, other(chunk(2, 3, "ef")), api.ErrChunksOther},
		{nil, api.Chunk{N: 1}, api.ErrChunksOther},
		{nil, api.Chunk{N: 1, Digest: d >> 32 << 32}, api.ErrChunksOther},
		{nil, api.Chunk{N: 1, Digest: d << 32 >> 32}, api.ErrChunksOther},
		// The same one again, and a further one.
		{[]api.Chunk{chunk(1, 3, "cd")}, chunk(1, 3, "cd"), api.OK},
		{[]api.Chunk{chunk(1, 3, "cd")}, chunk(0, 3, "cd"), api.OK},
		{[]api.Chunk{chunk(1, 3, "cd"), chunk(0, 3, "ab"), chunk(2, 3, "ef")}, chunk(2, 3, "ef"), api.OK},
		{[]api.Chunk{chunk(0, 1, "")}, chunk(0, 1, ""), api.OK},
		// Another digest, another count, another body.
		{[]api.Chunk{chunk(1, 3, "cd")}, other(chunk(0, 3, "ab")), api.ErrChunksOther},
		{[]api.Chunk{chunk(1, 3, "cd")}, other(chunk(1, 3, "cd")), api.ErrChunksOther},
		{[]api.Chunk{chunk(1, 3, "cd")}, chunk(0, 4, "ab"), api.ErrChunksOther},
		{[]api.Chunk{chunk(1, 3, "cd")}, chunk(1, 4, "cd"), api.ErrChunksOther},
		{[]api.Chunk{chunk(1, 3, "cd")}, chunk(1, 2, "cd"), api.ErrChunksOther},
		{[]api.Chunk{chunk(1, 3, "cd")}, chunk(0, 1, ""), api.ErrChunksOther},
		{[]api.Chunk{chunk(1, 3, "cd")}, chunk(1, 3, "ce"), api.ErrChunksOther},
		{[]api.Chunk{chunk(1, 3, "cd")}, chunk(1, 3, "c"), api.ErrChunksOther},
		{[]api.Chunk{chunk(1, 3, "cd")}, chunk(1, 3, "cde"), api.ErrChunksOther},
		{[]api.Chunk{chunk(0, 1, "")}, chunk(0, 1, "a"), api.ErrChunksOther},
		{[]api.Chunk{chunk(0, 1, "a")}, chunk(0, 1, ""), api.ErrChunksOther},
		{[]api.Chunk{chunk(0, 3, "ab"), chunk(2, 3, "ef")}, chunk(2, 3, "ab"), api.ErrChunksOther},
		// Two of these at once.
		{[]api.Chunk{chunk(1, 3, "cd")}, other(chunk(1, 4, "ce")), api.ErrChunksOther},
		{[]api.Chunk{chunk(1, 3, "cd")}, chunk(1, 4, "ce"), api.ErrChunksOther},
		// Not right, whatever else it is.
		{[]api.Chunk{chunk(1, 3, "cd")}, chunk(3, 3, "ab"), api.ErrChunksForm},
		{[]api.Chunk{chunk(1, 3, "cd")}, chunk(-1, 3, "ab"), api.ErrChunksForm},
		{[]api.Chunk{chunk(1, 3, "cd")}, chunk(0, 3, ""), api.ErrChunksForm},
		{[]api.Chunk{chunk(1, 3, "cd")}, chunk(1, 3, ""), api.ErrChunksForm},
		{[]api.Chunk{chunk(1, 3, "cd")}, chunk(1, 3, big), api.ErrChunksForm},
		{[]api.Chunk{chunk(1, 3, "cd")}, chunk(1, 4097, "cd"), api.ErrChunksForm},
		{[]api.Chunk{chunk(1, 3, "cd")}, chunk(0, 0, "cd"), api.ErrChunksForm},
		{[]api.Chunk{chunk(1, 3, "cd")}, other(chunk(3, 3, "ab")), api.ErrChunksForm},
		{[]api.Chunk{chunk(1, 3, "cd")}, other(chunk(1, 4, "")), api.ErrChunksForm},
		{[]api.Chunk{chunk(1, 3, "cd")}, other(chunk(1, 4, big)), api.ErrChunksForm},
		{nil, other(chunk(0, 2, "")), api.ErrChunksForm},
	} {
		j, p := joined(t, d, x.there...)
		before := j.Missing()
		if e := j.Take(x.c); e != x.want || p.take(x.c) != x.want {
			t.Errorf("%d: %d, want %d", i, e, x.want)
		}
		if x.want != api.OK && !slices.Equal(j.Missing(), before) {
			t.Errorf("%d: missing %v, was %v", i, j.Missing(), before)
		}
		match(t, j, p)
	}
	for i, c := range wrongs() {
		j, p := joined(t, c.Digest)
		if e := j.Take(c); e != api.ErrChunksForm {
			t.Errorf("wrong one %d: %d", i, e)
		}
		match(t, j, p)
	}
}

// A chunk that is refused leaves no trace: not even how many there are.
func TestRefusedChunksLeaveNothing(t *testing.T) {
	l := mustSplit(t, "abcdef", 2)
	j, p := joined(t, l[0].Digest)
	for _, c := range []api.Chunk{{N: 5, Body: "a"}, {N: 5, Digest: l[0].Digest}, {I: 5, N: 5, Digest: l[0].Digest, Body: "a"}} {
		if e := j.Take(c); e == api.OK {
			t.Errorf("%v was taken", c)
		}
		match(t, j, p)
	}
	for _, c := range l {
		if e := j.Take(c); e != api.OK || p.take(c) != api.OK {
			t.Errorf("Take of %v: %d", c, e)
		}
		match(t, j, p)
	}
}

// P7.4

func TestMissingAndWhole(t *testing.T) {
	for _, s := range []string{"", "a", "ab", "abcde", "abcdef", strings.Repeat("long ", 99)} {
		for _, size := range []int{1, 2, 3, 100, 4096} {
			l := mustSplit(t, s, size)
			j, p := joined(t, Digest(s))
			if j.Missing() != nil {
				t.Errorf("missing of none: %v", j.Missing())
			}
			if got, is := j.Whole(); got != "" || is {
				t.Errorf("whole of none: %q, %v", got, is)
			}
			match(t, j, p)
			for i, c := range slices.Backward(l) {
				if e := j.Take(c); e != api.OK || p.take(c) != api.OK {
					t.Errorf("Take of %d of %q: %d", i, s, e)
				}
				if got := j.Missing(); !slices.Equal(got, row(0, i)) {
					t.Errorf("missing %v, want those below %d", got, i)
				}
				match(t, j, p)
			}
			// Once more, and what is there is there still.
			for range 2 {
				if got, is := j.Whole(); got != s || !is || j.Missing() != nil {
					t.Errorf("whole %q, %v, want %q", got, is, s)
				}
			}
			if e := j.Take(l[0]); e != api.OK {
				t.Errorf("Take of the first one again: %d", e)
			}
			if e := j.Take(api.Chunk{N: len(l) + 1, Digest: l[0].Digest, Body: "a"}); e != api.ErrChunksOther {
				t.Errorf("Take of another count: %d", e)
			}
			match(t, j, p)
		}
	}
}

func TestMissingRises(t *testing.T) {
	s := strings.Repeat("x", 4096)
	l := mustSplit(t, s, 1)
	j, p := joined(t, Digest(s), l[4000], l[7], l[4095], l[2000])
	want := slices.DeleteFunc(row(0, 4096), func(i int) bool { return i == 4000 || i == 7 || i == 4095 || i == 2000 })
	if got := j.Missing(); !slices.Equal(got, want) {
		t.Errorf("%v", got)
	}
	match(t, j, p)
}

// wrongText is a joiner that has all chunks, but not those of its text.
func wrongText(t *testing.T, want string, parts ...string) (*Joiner, *plainJoiner) {
	t.Helper()
	var l []api.Chunk
	for i, body := range parts {
		l = append(l, api.Chunk{I: i, N: len(parts), Digest: Digest(want), Body: body})
	}
	return joined(t, Digest(want), l...)
}

func TestWholeOfAnotherTextLetsAllGo(t *testing.T) {
	for _, parts := range [][]string{{""}, {"abcdeg"}, {"ab", "cd", "eg"}, {"cd", "ab", "ef"}, {"ef", "cd", "ab"}, {"abc", "deg"}, {"ab", "cd", "ef", "g"}, {"ab", "cd"}} {
		j, _ := wrongText(t, "abcdef", parts...)
		if got := j.Missing(); got != nil {
			t.Errorf("%q: missing %v", parts, got)
		}
		c := j.Copy()
		if s, is := j.Whole(); s != "" || is {
			t.Errorf("%q: %q, %v", parts, s, is)
		}
		// It has none any more; the copy still has all.
		if got := j.Missing(); got != nil {
			t.Errorf("%q: missing %v then", parts, got)
		}
		if s, is := j.Whole(); s != "" || is {
			t.Errorf("%q: %q, %v then", parts, s, is)
		}
		if e := c.Take(api.Chunk{I: 0, N: 5, Digest: Digest("abcdef"), Body: "a"}); e != api.ErrChunksOther {
			t.Errorf("%q: the copy took another count: %d", parts, e)
		}
		// Chunks of another count are taken, and other bodies of the same ones.
		for _, size := range []int{5, 1, 2, 6} {
			k, p := j.Copy(), &plainJoiner{digest: Digest("abcdef")}
			for i, c := range mustSplit(t, "abcdef", size) {
				if e := k.Take(c); e != api.OK || p.take(c) != api.OK {
					t.Errorf("%q: Take of %d, split by %d: %d", parts, i, size, e)
				}
				match(t, k, p)
			}
			if s, is := k.Whole(); s != "abcdef" || !is {
				t.Errorf("%q: split by %d: %q, %v", parts, size, s, is)
			}
		}
	}
}

// Texts with the same sum, forward or backward, are other ones all the same.
func TestWholeOfTheSameSum(t *testing.T) {
	for want, s := range map[string]string{"plumless": "buckeroo", "sselmulp": "oorekcub"} {
		j, p := wrongText(t, want, s[:3], s[3:])
		match(t, j, p)
		if e := j.Take(api.Chunk{N: 1, Digest: Digest(want), Body: want}); e != api.OK {
			t.Errorf("%q: %d", s, e)
		}
	}
}

// Whole lets nothing go as long as one is missing, wrong as the others may be.
func TestWholeOfSomeKeepsThem(t *testing.T) {
	d := Digest("abcdef")
	j, p := joined(t, d, api.Chunk{I: 0, N: 3, Digest: d, Body: "zz"}, api.Chunk{I: 2, N: 3, Digest: d, Body: "yy"})
	match(t, j, p)
	if got := j.Missing(); !slices.Equal(got, []int{1}) {
		t.Errorf("missing %v", got)
	}
	if e := j.Take(api.Chunk{I: 0, N: 3, Digest: d, Body: "ab"}); e != api.ErrChunksOther {
		t.Errorf("another body: %d", e)
	}
}

// The bodies are asked for their digest, not for how they were split.
func TestWholeOfUnevenChunks(t *testing.T) {
	j, p := wrongText(t, "abcdef", "a", "bcd", "ef")
	if s, is := j.Whole(); s != "abcdef" || !is {
		t.Errorf("%q, %v", s, is)
	}
	match(t, j, p)
}

func TestCopy(t *testing.T) {
	s := "abcdefg"
	l := mustSplit(t, s, 2)
	for n := range len(l) + 1 {
		j, p := joined(t, Digest(s), l[:n]...)
		c, q := j.Copy(), &plainJoiner{digest: p.digest, has: slices.Clone(p.has)}
		if c == j {
			t.Fatal("no other one")
		}
		match(t, c.Copy(), q)
		// What one takes the other one does not have, whichever it is.
		for i, x := range slices.Backward(l) {
			if e := j.Take(x); e != p.take(x) {
				t.Errorf("%d: Take of %d: %d", n, i, e)
			}
			match(t, c, q)
			match(t, j, p)
		}
		k, r := j.Copy(), &plainJoiner{digest: p.digest, has: slices.Clone(p.has)}
		wrong := l[3]
		wrong.Body = "h"
		for i, x := range append(slices.Clone(l[:3]), wrong) {
			if e := c.Take(x); e != q.take(x) {
				t.Errorf("%d: Take of %d by the copy: %d", n, i, e)
			}
			match(t, j, p)
			match(t, k, r)
			match(t, c, q)
		}
	}
}

// What one lets go stays in the other one, and its digest is the same.
func TestCopyThenLetGo(t *testing.T) {
	for _, original := range []bool{true, false} {
		j, p := wrongText(t, "abcdef", "ab", "cd", "eg")
		c := j.Copy()
		if !original {
			j, c = c, j
		}
		j.Whole()
		if e := j.Take(api.Chunk{I: 0, N: 7, Digest: Digest("abcdef"), Body: "ab"}); e != api.OK {
			t.Errorf("Take of another count: %d", e)
		}
		if e := c.Take(api.Chunk{I: 2, N: 3, Digest: Digest("abcdef"), Body: "ef"}); e != api.ErrChunksOther {
			t.Errorf("Take of another body: %d", e)
		}
		match(t, c, p)
	}
}

// P7.5

func TestATextSplitAndTakenIsWhole(t *testing.T) {
	for seed := range 120 {
		c := chance(seed)
		s := c.text([...]int{0, 1, 7, 64, 500}[seed%5] + c.below(3))
		size := [...]int{1, 2, 3, 7, 64, 500, 4096}[c.below(7)]
		l := mustSplit(t, s, size)
		j, p := joined(t, Digest(s))
		for left := len(l); left > 0; {
			x := l[c.below(len(l))]
			bytes, e := Put(x)
			if e != api.OK {
				t.Fatalf("%d: Put of %v: %d", seed, x, e)
			}
			if got, e := Get(bytes); got != x || e != api.OK {
				t.Fatalf("%d: Get of %v: %v, %d", seed, x, got, e)
			}
			// Each as often as it likes: of many a run takes those that are missing.
			if missing := j.Missing(); len(missing) > 0 && c.below(3) > 0 {
				x = l[missing[c.below(len(missing))]]
			}
			if got, is := j.Whole(); got != "" || is {
				t.Fatalf("%d: whole, as long as %d are missing: %q", seed, left, got)
			}
			if e := j.Take(x); e != api.OK || p.take(x) != api.OK {
				t.Fatalf("%d: Take of %v: %d", seed, x, e)
			}
			if c.below(9) == 0 {
				j = j.Copy()
			}
			left = len(l) - len(p.has)
			if got := j.Missing(); len(got) != left || !slices.Equal(got, p.missing()) {
				t.Fatalf("%d: missing %v, want %v", seed, got, p.missing())
			}
		}
		if got, is := j.Whole(); got != s || !is {
			t.Fatalf("%d: %q, %v, want %q", seed, got, is, s)
		}
	}
}

// Chunks of two texts, some spoilt, and all that may be asked in between, held against the plain one.
func TestAnyChunksInAnyOrder(t *testing.T) {
	for seed := range 200 {
		c := chance(seed)
		s := c.text(1 + c.below(6))
		j, p := joined(t, Digest(s))
		for range 60 {
			x := api.Chunk{I: c.below(5) - 1, N: c.below(4), Digest: Digest(s), Body: c.text(c.below(2))}
			if c.below(3) > 0 {
				l := mustSplit(t, s, 1+c.below(4))
				x = l[c.below(len(l))]
			}
			if c.below(12) == 0 {
				x.Digest ^= 1 << c.below(64)
			}
			if e, want := j.Take(x), p.take(x); e != want {
				t.Fatalf("%d: Take of %v: %d, want %d", seed, x, e, want)
			}
			if got, want := j.Missing(), p.missing(); !slices.Equal(got, want) {
				t.Fatalf("%d: missing %v, want %v", seed, got, want)
			}
			if c.below(4) == 0 {
				match(t, j, p)
			}
		}
	}
}

// A segment goes over in chunks, as the whole will do it.
func TestSegmentsGoOver(t *testing.T) {
	for i, x := range segs() {
		s, _ := Text(x)
		for _, size := range []int{1, 8, 4096} {
			l, e := Split(s, size)
			if e == api.ErrBig && len(s) > 4096 {
				continue
			}
			j, _ := joined(t, Digest(s), l...)
			got, is := j.Whole()
			if back, e := Parse(got); !is || e != api.OK || !sameSeg(back, x) {
				t.Errorf("%d, split by %d: %v, %d", i, size, back, e)
			}
		}
	}
}

// R4

// roomy is a list with room behind it, and the whole of it.
func roomy[T any](l []T, behind T) ([]T, []T) {
	whole := append(slices.Clone(l), behind, behind, behind)
	return whole[:len(l)], whole
}

// spoil fills a list, and the room behind it.
func spoil[T any](l []T, by T) {
	l = l[:cap(l)]
	for i := range l {
		l[i] = by
	}
}

func TestWhatIsHandedInStays(t *testing.T) {
	l, whole := roomy(seg(3, 10, 4, 7).L, api.Found{Offset: 99, R: api.Record{Value: "room"}})
	was := slices.Clone(whole)
	s, e := Text(api.Seg{Base: 3, Next: 10, L: l})
	if s != plainText(seg(3, 10, 4, 7)) || e != api.OK || !slices.Equal(whole, was) {
		t.Errorf("%x, %d, and then %v", s, e, whole)
	}
	spoil(l, api.Found{Offset: -1, R: badForm})
	if s != plainText(seg(3, 10, 4, 7)) {
		t.Errorf("then %x", s)
	}
}

func TestWhatIsToldIsItsOwners(t *testing.T) {
	// A segment.
	s := plainText(seg(3, 10, 4, 5, 7))
	first, _ := Parse(s)
	second, _ := Parse(s)
	spoil(first.L, api.Found{Offset: -1, R: badForm})
	if third, _ := Parse(s); !sameSeg(second, seg(3, 10, 4, 5, 7)) || !sameSeg(third, second) {
		t.Errorf("%v, %v", second, third)
	}
	// Chunks.
	l, again := mustSplit(t, "abcde", 2), mustSplit(t, "abcde", 2)
	j, p := joined(t, Digest("abcde"), l[:2]...)
	spoil(l, api.Chunk{I: -1, Body: "spoilt"})
	if !slices.Equal(bodies(again), []string{"ab", "cd", "e"}) || !slices.Equal(mustSplit(t, "abcde", 2), again) {
		t.Errorf("%v", again)
	}
	match(t, j, p)
	// Numbers.
	missing := j.Missing()
	c := j.Copy()
	spoil(j.Missing(), -1)
	spoil(c.Missing(), -1)
	match(t, j, p)
	match(t, c, p)
	j.Take(again[2])
	if !slices.Equal(missing, []int{2}) {
		t.Errorf("missing %v", missing)
	}
}

// heldBytes is how much memory is in use.
func heldBytes() int64 {
	runtime.GC()
	var m runtime.MemStats
	runtime.ReadMemStats(&m)
	return int64(m.HeapAlloc)
}

// Pieces of great texts are handed in and told: the texts themselves are not kept with them.
func TestGreatTextsAreNotKept(t *testing.T) {
	const great, n = 1 << 20, 20
	for name, piece := range map[string]func(i int) any{
		"Take": func(i int) any {
			j := New(9)
			j.Take(api.Chunk{N: 2, Digest: 9, Body: strings.Repeat("x", great)[i : i+9]})
			return j
		},
		"Get": func(i int) any {
			s := strings.Repeat("x", great) + plainChunk(api.Chunk{N: 1, Body: strconv.Itoa(i)})
			c, _ := Get(s[great:])
			return c
		},
		"Split": func(i int) any {
			l, _ := Split(strings.Repeat("x", great+i), 4096)
			return l[1].Body
		},
		"Parse": func(i int) any {
			s := strings.Repeat("x", great) + plainText(seg(i, 100, i, 50+i))
			x, _ := Parse(s[great:])
			return x
		},
	} {
		before := heldBytes()
		var kept []any
		for i := range n {
			kept = append(kept, piece(i))
		}
		if more := heldBytes() - before; more > great {
			t.Errorf("%s: %d bytes are kept", name, more)
		}
		runtime.KeepAlive(kept)
	}
}

// What was let go is not kept.
func TestWhatWentIsNotKept(t *testing.T) {
	j := New(9)
	for i := range 4096 {
		j.Take(api.Chunk{I: i, N: 4096, Digest: 9, Body: strings.Repeat(strconv.Itoa(i%10), 4096)})
	}
	before := heldBytes()
	j.Whole()
	if less := before - heldBytes(); less < 4000*4096 {
		t.Errorf("%d bytes went", less)
	}
	runtime.KeepAlive(j)
}
