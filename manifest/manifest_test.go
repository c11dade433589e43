package manifest

import (
	"math"
	"reflect"
	"runtime"
	"slices"
	"strconv"
	"strings"
	"testing"
	"time"

	"stagecoach/api"
	"stagecoach/broker"
)

// The chapter's example.

func TestExample(t *testing.T) {
	s := done(t, 4, api.Op{Kind: api.OpTopic, Part: at("t", 0), N: 1})
	m, texts, e := Make(s)
	if e != api.OK || len(m.Pieces) != 1 || len(texts) != 1 {
		t.Errorf("Make: %+v, %q, %d", m, texts, e)
	}
	if l := Missing(m, m); len(l) != 0 {
		t.Errorf("of itself %v are missing", l)
	}
}

func TestNumbersOfApi(t *testing.T) {
	for got, want := range map[api.Errno]int{api.ErrBrokerForm: 131, api.ErrManifestForm: 140, api.ErrManifestOther: 141} {
		if int(got) != want {
			t.Errorf("an error is %d, not %d", got, want)
		}
	}
	if api.MaxOffset != most || api.MaxTopics != 8 || api.MaxParts != 8 {
		t.Error("limits are not the chapter's")
	}
}

// P14.1

func TestSmallByHand(t *testing.T) {
	for _, row := range []struct {
		s    api.State
		want string
	}{
		{done(t, 1), "\x01\x00" + "\x00\x00\x00\x00\x00"},
		{done(t, 64), "\x40\x00" + "\x00\x00\x00\x00\x00"},
		{done(t, 3, api.Op{Kind: api.OpTick, N: 300}), "\x03\xac\x02" + "\x00\x00\x00\x00\x00"},
		{catalog(3, "a", "long-name"), "\x02\x00" + "\x02\x01a\x03\x09long-name\x03" + "\x00\x00\x00\x00"},
		{done(t, 2, api.Op{Kind: api.OpProducer}, api.Op{Kind: api.OpProducer}, api.Op{Kind: api.OpProducer, N: 1}), "\x02\x00" + "\x00" + "\x02\x01\x00" + "\x00\x00\x00"},
		{one(), "\x02\x07" + "\x01\x01t\x01" + "\x02\x04\x00" + "\x01\x01\x04\x01t\x00\x02\x08\x01\x04\x09\x01\x05" + "\x01\x01g\x03\x01\x01\x01m\x02\x01s\x01t\x05\x06" + "\x01\x01g\x01t\x00\x04"},
		{rich(), "\x04\x05" + "\x03\x01a\x01\x03b-2\x02\x01t\x03" + "\x03\x00\x01\x00" +
			"\x04" + "\x01\x00\x01t\x00\x02\x00\x02\x00\x02\x03\x02" + "\x01\x00\x01t\x02\x01\x00\x01\x00" + "\x02\x01\x01a\x00\x01\x00\x04\x05" + "\x02\x01\x01t\x00\x01\x00\x01\x05" +
			"\x03" + "\x01e\x02\x00\x00" + "\x01g\x02\x00\x02" + "\x01m\x02\x01a\x01t\x09\x05" + "\x01n\x01\x01t\x05\x03" +
			"\x01h\x02\x01\x02" + "\x01x\x02\x01a\x03b-2\x80\x80\x80\x80\x80\x20\x03" + "\x01y\x02\x03b-2\x07no-such\x07\x03" +
			"\x04" + "\x01g\x01a\x00\x09" + "\x01g\x01t\x00\x03" + "\x01h\x01a\x00\x03" + "\x01h\x03b-2\x00\x00"},
	} {
		if got, e := Small(row.s); got != row.want || e != api.OK {
			t.Errorf("Small(%+v): %q, %d, want %q", row.s, got, e, row.want)
		}
		if got, e := Parse(row.want); e != api.OK || !same(got, bare(row.s)) {
			t.Errorf("Parse(%q): %+v, %d", row.want, got, e)
		}
	}
}

func TestSmallIsByTheWords(t *testing.T) {
	for name, s := range states(t) {
		if got, e := Small(s); got != plainSmall(s) || e != api.OK {
			t.Errorf("%s: Small: %q, %d, want %q", name, got, e, plainSmall(s))
		}
	}
}

// The logs make no difference, as long as the state may be.
func TestLogsAreNotInTheSmallText(t *testing.T) {
	small := mustSmall(t, one())
	for i, segs := range [][]api.Seg{
		{{}},
		{{Base: most, Next: most}},
		{{Base: 3, Next: 5, L: found(3, value("3"), value("another"))}, {Base: 5, Next: 6, L: found(5, value("5"))}},
		{{Base: 3, Next: 5, L: found(3, value("3"), value("4"))}, {Base: 5, Next: 5}},
		{{Base: 0, Next: 9}, {Base: 9, Next: 11, L: found(9, tomb("k"), value(""))}, {Base: 11, Next: 12}},
	} {
		s := one()
		s.Logs[0].Segs = segs
		if got, e := Small(s); got != small || e != api.OK {
			t.Errorf("%d: %q, %d, want %q", i, got, e, small)
		}
	}
	// What may not be in them is told all the same.
	s := one()
	s.Logs[0].Segs[1].Next = 5
	if got, e := Small(s); got != "" || e != api.ErrBrokerForm {
		t.Errorf("%q, %d", got, e)
	}
}

// broken are changes of a state, one(), that make it one that may not be; of some the fault is in the logs alone.
func broken() (logs, rest []func(s *api.State)) {
	logs = []func(s *api.State){
		func(s *api.State) { s.Logs = nil },
		func(s *api.State) { s.Logs[0].Part.N = 1 },
		func(s *api.State) { s.Logs[0].Part.Topic = "u" },
		func(s *api.State) { s.Logs = append(s.Logs, s.Logs[0]) },
		func(s *api.State) {
			s.Logs = append(s.Logs, api.Logged{Part: at("t", 1), Segs: []api.Seg{{}}})
		},
		func(s *api.State) { s.Logs[0].Segs = nil },
		func(s *api.State) { s.Logs[0].Segs[1].Base = 4 },
		func(s *api.State) { s.Logs[0].Segs[0].Base = -1 },
		func(s *api.State) { s.Logs[0].Segs[1].Next = most + 1 },
		func(s *api.State) { s.Logs[0].Segs[0].L[1].Offset = 3 },
		func(s *api.State) {
			s.Logs[0].Segs[1].L[0].R.HasKey, s.Logs[0].Segs[1].L[0].R.Key = true, strings.Repeat("k", 65)
		},
		func(s *api.State) { s.Logs[0].Segs[0].L[0].R.Value = strings.Repeat("v", 513) },
		// More records than there is room for, and topics without logs.
		func(s *api.State) { s.Room = 1 },
		func(s *api.State) { s.Topics[0].N = 2 },
		func(s *api.State) { s.Topics = append(s.Topics, api.Topic{Name: "u", N: 1}) },
		func(s *api.State) { *s = catalog(2, "a", "b"); slices.Reverse(s.Logs) },
	}
	rest = []func(s *api.State){
		func(s *api.State) { *s = api.State{} },
		func(s *api.State) { s.Room = 0 },
		func(s *api.State) { s.Room = 65 },
		func(s *api.State) { s.Room = -1 },
		func(s *api.State) { s.Room = math.MinInt },
		func(s *api.State) { s.Now = -1 },
		func(s *api.State) { s.Now = most + 1 },
		func(s *api.State) { s.Now = math.MaxInt },
		func(s *api.State) { s.Topics = nil },
		func(s *api.State) { *s = catalog(9, "a") },
		func(s *api.State) { *s = catalog(0, "a") },
		func(s *api.State) { s.Topics[0].N = -1 },
		func(s *api.State) { s.Topics[0].N = most },
		func(s *api.State) { s.Topics[0].N = math.MaxInt },
		func(s *api.State) { s.Topics[0].N = math.MinInt },
		func(s *api.State) { *s = catalog(1, "b", "a") },
		func(s *api.State) { *s = catalog(1, "a", "a") },
		func(s *api.State) { *s = catalog(1, "a", "b", "c", "d", "e", "f", "g", "h", "i") },
		func(s *api.State) { s.Epochs[1] = -1 },
		func(s *api.State) { s.Epochs[1] = most + 1 },
		func(s *api.State) { s.Epochs[0] = 5 },
		func(s *api.State) { s.Epochs = nil },
		func(s *api.State) { s.Epochs = append(s.Epochs, make([]int, 31)...) },
		func(s *api.State) { s.Makers[0].Id = 0 },
		func(s *api.State) { s.Makers[0].Id = 3 },
		func(s *api.State) { s.Makers[0].Epoch = -4 },
		func(s *api.State) { s.Makers[0].Part.N = 1 },
		func(s *api.State) { s.Makers[0].Part.N = -1 },
		func(s *api.State) { s.Makers[0].Part.Topic = "u" },
		func(s *api.State) { s.Makers = append(s.Makers, s.Makers[0]) },
		func(s *api.State) { s.Makers[0].Last = nil },
		func(s *api.State) { s.Makers[0].Last[1].Seq = 10 },
		func(s *api.State) { s.Makers[0].Last[1].N = 0 },
		func(s *api.State) { s.Makers[0].Last[1].Offset = most + 1 },
		func(s *api.State) {
			s.Makers[0].Last = []api.Did{{N: 1}, {Seq: 1, N: 1}, {Seq: 2, N: 1}, {Seq: 3, N: 1}, {Seq: 4, N: 1}, {Seq: 5, N: 1}}
		},
		func(s *api.State) { s.Groups[0].Gen = -1 },
		func(s *api.State) { s.Groups[0].Gen = most + 1 },
		func(s *api.State) { s.Groups = append(s.Groups, s.Groups[0]) },
		func(s *api.State) { s.Groups = append(s.Groups, api.Grouped{Name: "f"}) },
		func(s *api.State) {
			s.Groups = nil
			for i := range 9 {
				s.Groups = append(s.Groups, api.Grouped{Name: strconv.Itoa(i)})
			}
		},
		func(s *api.State) { s.Groups[0].Seats[0].Timeout = 0 },
		func(s *api.State) { s.Groups[0].Seats[0].Seen = -1 },
		func(s *api.State) { s.Groups[0].Seats[0].M.Topics = nil },
		func(s *api.State) { s.Groups[0].Seats[0].M.Topics = []string{"t", "s"} },
		func(s *api.State) { s.Groups[0].Seats = append(s.Groups[0].Seats, s.Groups[0].Seats[0]) },
		func(s *api.State) { s.Marks[0].Offset = -1 },
		func(s *api.State) { s.Marks[0].Offset = most + 1 },
		func(s *api.State) { s.Marks[0].Part.N = 1 },
		func(s *api.State) { s.Marks[0].Part.Topic = "s" },
		func(s *api.State) { s.Marks = append(s.Marks, s.Marks[0]) },
	}
	for _, bad := range []string{"", "G", "g n", "g_", "g\x00", "\xff", "\u00e9", strings.Repeat("g", 17), strings.Repeat("g", 1000)} {
		rest = append(rest,
			func(s *api.State) { *s = catalog(1, bad) },
			func(s *api.State) { s.Makers[0].Part.Topic = bad },
			func(s *api.State) { s.Groups[0].Name = bad },
			func(s *api.State) { s.Groups[0].Seats[0].M.Name = bad },
			func(s *api.State) { s.Groups[0].Seats[0].M.Topics = []string{bad} },
			func(s *api.State) { s.Marks[0].Group = bad },
			func(s *api.State) { s.Marks[0].Part.Topic = bad },
		)
	}
	return logs, rest
}

// What broker.Load does not take has its error, and no small text and no manifest; nor is a text a small one that says so.
func TestStatesThatMayNotBe(t *testing.T) {
	logs, rest := broken()
	for i, change := range append(logs, rest...) {
		s := one()
		change(&s)
		was := apart(s)
		if got, e := Small(s); got != "" || e != api.ErrBrokerForm {
			t.Errorf("%d: Small: %q, %d", i, got, e)
		}
		if m, texts, e := Make(s); m.Small != 0 || m.Pieces != nil || texts != nil || e != api.ErrBrokerForm {
			t.Errorf("%d: Make: %+v, %q, %d", i, m, texts, e)
		}
		if !reflect.DeepEqual(apart(s), was) {
			t.Errorf("%d: it is now %+v", i, s)
		}
		if ok := parses(t, plainSmall(s)); ok != (i < len(logs)) {
			t.Errorf("%d: Parse(%q): %v", i, plainSmall(s), ok)
		}
	}
}

func TestParseTellsWhatSmallTold(t *testing.T) {
	for name, s := range states(t) {
		got, e := Parse(mustSmall(t, s))
		if e != api.OK || got.Logs != nil || !same(got, bare(s)) {
			t.Errorf("%s: %+v, %d, want %+v", name, got, e, bare(s))
		}
	}
}

// refused holds that texts are no small ones.
func refused(t *testing.T, what string, texts ...string) {
	t.Helper()
	for _, s := range texts {
		if x, e := Parse(s); e != api.ErrManifestForm || !reflect.DeepEqual(x, api.State{}) {
			t.Errorf("%s: Parse(%q): %+v, %d", what, s, x, e)
		}
	}
}

func TestParseOfBeginningsAndOfMore(t *testing.T) {
	refused(t, "nothing", "")
	for name, s := range states(t) {
		if name == "full" {
			continue
		}
		small := mustSmall(t, s)
		for i := range small {
			refused(t, name, small[:i])
			parses(t, small[i+1:])
		}
		for b := range 256 {
			refused(t, name, small+string([]byte{byte(b)}), string([]byte{byte(b)})+small+small)
		}
		refused(t, name, small+small, small+"\x00\x00\x00\x00\x00\x00\x00")
	}
	small := mustSmall(t, full())
	for i := 0; i < len(small); i += 997 {
		refused(t, "full", small[:i])
	}
	refused(t, "full", small[:len(small)-1], small+"\x00")
}

// with is a text of things of which one is told by other bytes.
func with(l []token, i int, s string) string {
	return text(l[:i]) + s + text(l[i+1:])
}

// longer are a number's bytes, with zeros behind, that the words do not ask for.
func longer(n uint64) []string {
	s := []byte(plainNumber(n))
	var l []string
	for len(s) < 11 {
		s[len(s)-1] |= 0x80
		s = append(s, 0)
		l = append(l, string(s))
	}
	return l
}

// great are numbers that none of a small text is.
func great(n uint64) []uint64 {
	return []uint64{most + 1, 1 << 41, 1<<63 - 1, 1 << 63, 1<<63 + n, 1<<64 - 1, 1<<64 - 1 - n, 1<<63 - 1 - n}
}

// Each number and each name can be written in one way alone.
func TestParseOfThingsWrittenInOtherWays(t *testing.T) {
	for _, s := range []api.State{one(), rich()} {
		l := tokens(s)
		for i, x := range l {
			if x.kind == isName {
				n := uint64(len(x.s))
				for _, size := range longer(n) {
					refused(t, "a long length", with(l, i, size+x.s))
				}
				for _, size := range append(great(n), n+1<<20, uint64(len(text(l)))) {
					refused(t, "a length of more than there is", with(l, i, plainNumber(size)+x.s))
				}
				refused(t, "another name", with(l, i, plainName("")), with(l, i, plainName(x.s+"_")), with(l, i, plainName(strings.ToUpper("x"+x.s))), with(l, i, plainName(strings.Repeat("x", 17))))
				continue
			}
			refused(t, "a long number", with(l, i, ""), with(l, i, "\xff\xff\xff\xff\xff\xff\xff\xff\xff\x02"))
			for _, bytes := range longer(x.n) {
				refused(t, "a long number", with(l, i, bytes))
			}
			for _, n := range great(x.n) {
				refused(t, "a great number", with(l, i, plainNumber(n)))
			}
			for _, n := range []uint64{0, 1, 2, x.n + 1, x.n - 1, 8, 9, 64, 65, 127, 128, most, most - 1, 1 << 32, 1<<32 + x.n} {
				parses(t, with(l, i, plainNumber(n)))
			}
		}
	}
}

// Yes and no are 1 and 0 alone.
func TestParseOfYesAndNo(t *testing.T) {
	for _, s := range []api.State{one(), rich()} {
		l := tokens(s)
		yes := 0
		for i, x := range l {
			if x.kind != isYes {
				continue
			}
			yes++
			for n := range uint64(400) {
				is := parses(t, with(l, i, plainNumber(n)))
				if is != (n < 2) {
					t.Errorf("%d is yes or no: %v", n, is)
				}
				if got, _ := Parse(with(l, i, plainNumber(n))); is && got.Groups[yes-1].Robin != (n == 1) {
					t.Errorf("%d: %+v", n, got)
				}
			}
			for _, n := range append(great(x.n), 1<<32, 1<<32+1, most, 1<<63+1) {
				refused(t, "neither yes nor no", with(l, i, plainNumber(n)))
			}
		}
		if yes != len(s.Groups) {
			t.Fatalf("%d of %d groups", yes, len(s.Groups))
		}
	}
}

// A list has as many as it says.
func TestParseOfOtherCounts(t *testing.T) {
	for _, s := range []api.State{one(), rich(), {Room: 1}} {
		l := tokens(s)
		for i, x := range l {
			if x.kind != isCount {
				continue
			}
			for n := range x.n + 300 {
				if n != x.n && parses(t, with(l, i, plainNumber(n))) {
					t.Errorf("a count of %d is taken for %d", n, x.n)
				}
			}
			for _, n := range append(great(x.n), uint64(len(text(l[i+1:]))), 1<<20, 1<<31, 1<<32, 1<<32+x.n, most) {
				if n != x.n {
					refused(t, "a great count", with(l, i, plainNumber(n)), text(l[:i])+plainNumber(n))
				}
			}
		}
	}
}

// Whatever one byte is changed to, the answer is the plain one's.
func TestParseOfOneByteChanged(t *testing.T) {
	for _, s := range []api.State{one(), rich(), {Room: 64, Now: most}} {
		small := mustSmall(t, s)
		same := 0
		for i := range small {
			for b := range 256 {
				if parses(t, small[:i]+string([]byte{byte(b)})+small[i+1:]) {
					same++
				}
			}
			parses(t, small[:i]+small[i+1:])
			parses(t, small[:i]+"\x00"+small[i:])
			parses(t, small[:i]+"\x80"+small[i:])
		}
		if same < len(small) {
			t.Errorf("%d are small texts", same)
		}
	}
}

// The state's logs are empty ones from 0 on: what else it has is held against these alone.
func TestParseAsksNothingOfLogs(t *testing.T) {
	for i, change := range []func(s *api.State){
		// A mark and a batch beyond the end of an empty log, and one record where there were two.
		func(s *api.State) { s.Marks[0].Offset = most },
		func(s *api.State) { s.Makers[0].Last[1].Offset = most },
		func(s *api.State) { s.Room = 1 },
		func(s *api.State) { s.Topics[0].N = 8; s.Makers[0].Part.N = 7; s.Marks[0].Part.N = 7 },
		func(s *api.State) { s.Groups = nil },
		func(s *api.State) { s.Topics = append([]api.Topic{{Name: "a", N: 3}}, s.Topics...) },
	} {
		s := one()
		change(&s)
		if x, e := Parse(plainSmall(s)); e != api.OK || !same(x, bare(s)) {
			t.Errorf("%d: %+v, %d", i, x, e)
		}
	}
}

// heldBytes is how much memory is in use.
func heldBytes() int64 {
	runtime.GC()
	var m runtime.MemStats
	runtime.ReadMemStats(&m)
	return int64(m.HeapAlloc)
}

// usedBytes is how much memory some work took, held or not.
func usedBytes(work func()) int64 {
	var was, now runtime.MemStats
	runtime.ReadMemStats(&was)
	work()
	runtime.ReadMemStats(&now)
	return int64(now.TotalAlloc - was.TotalAlloc)
}

// A text that only says that there is much takes neither time nor room.
func TestParseOfGreatCountsIsCheap(t *testing.T) {
	var texts []string
	for _, s := range []api.State{one(), rich(), full()} {
		l := tokens(s)
		for i, x := range l {
			if x.kind == isName || i > 300 {
				continue
			}
			for _, n := range []uint64{1 << 20, 1 << 31, most, 1 << 62, 1<<64 - 1} {
				texts = append(texts, with(l[:min(len(l), 400)], i, plainNumber(n)))
			}
		}
	}
	begun := time.Now()
	used := usedBytes(func() {
		for _, s := range texts {
			if x, e := Parse(s); e == api.OK && len(x.Topics) > 8 {
				t.Errorf("Parse(%q): %+v", s, x)
			}
		}
	})
	if used > int64(len(texts))<<18 || time.Since(begun) > time.Minute {
		t.Errorf("%d texts took %d bytes, %v", len(texts), used, time.Since(begun))
	}
	// Many topics, each of many partitions, in far more bytes than a state may have.
	many := "\x01\x00" + plainNumber(1<<18) + strings.Repeat(plainName("a")+plainNumber(most), 1<<18) + "\x00\x00\x00\x00"
	refused(t, "many topics", many[:len(many)-1])
	if used := usedBytes(func() {
		if _, e := Parse(many); e != api.ErrManifestForm {
			t.Error(e)
		}
	}); used > 200<<18 {
		t.Errorf("many topics took %d bytes", used)
	}
}

// P14.2

func TestMakeByHand(t *testing.T) {
	s := one()
	m, texts, e := Make(s)
	first, second := "\x03\x05\x02\x00\x00\x013\x00\x00\x014", "\x05\x06\x01\x00\x00\x015"
	want := api.Manifest{Small: plainDigest(mustSmall(t, s)), Pieces: []api.Piece{
		{Part: at("t", 0), Base: 3, Next: 5, Digest: plainDigest(first)},
		{Part: at("t", 0), Base: 5, Next: 6, Digest: plainDigest(second)},
	}}
	if e != api.OK || !sameManifest(m, want) || !slices.Equal(texts, []string{first, second}) {
		t.Errorf("Make: %+v, %q, %d", m, texts, e)
	}
	// No partition: no piece.
	s = done(t, 2, api.Op{Kind: api.OpProducer})
	m, texts, e = Make(s)
	if e != api.OK || m.Small != plainDigest("\x02\x00\x00\x01\x00\x00\x00\x00") || len(m.Pieces) != 0 || len(texts) != 0 {
		t.Errorf("Make: %+v, %q, %d", m, texts, e)
	}
	// Segments that were let go, and compacted: one from 2 on, of which offset 3 went, and one from 4 on.
	m, texts, e = Make(states(t)["retained, compacted"])
	first, second = "\x02\x04\x01\x00\x00\x011", "\x04\x06\x02\x00\x00\x011\x00\x01\x01k\x012"
	if e != api.OK || !slices.Equal(texts, []string{"\x00\x00\x00", first, second}) {
		t.Errorf("Make: %q, %d", texts, e)
	}
	if l := m.Pieces; len(l) != 3 || l[0] != (api.Piece{Part: at("t", 0), Digest: plainDigest("\x00\x00\x00")}) ||
		l[1] != (api.Piece{Part: at("t", 1), Base: 2, Next: 4, Digest: plainDigest(first)}) || l[2] != (api.Piece{Part: at("t", 1), Base: 4, Next: 6, Digest: plainDigest(second)}) {
		t.Errorf("Make: %+v", m)
	}
}

func TestMakeIsByTheWords(t *testing.T) {
	for name, s := range states(t) {
		m, texts, e := Make(s)
		want, wantTexts := plainMake(s)
		if e != api.OK || !sameManifest(m, want) || !slices.Equal(texts, wantTexts) {
			t.Errorf("%s: Make: %+v, %q, %d, want %+v, %q", name, m, texts, e, want, wantTexts)
		}
	}
}

func TestDigestByHand(t *testing.T) {
	for _, row := range []struct {
		m    api.Manifest
		want string
	}{
		{api.Manifest{}, "\x00\x00"},
		{api.Manifest{Pieces: []api.Piece{}}, "\x00\x00"},
		{api.Manifest{Small: 300}, "\xac\x02\x00"},
		{api.Manifest{Small: 1<<64 - 1}, "\xff\xff\xff\xff\xff\xff\xff\xff\xff\x01\x00"},
		{api.Manifest{Small: 1, Pieces: []api.Piece{{Part: at("t", 2), Base: 3, Next: 4, Digest: 5}}}, "\x01\x01\x01t\x02\x03\x04\x05"},
		{api.Manifest{Small: 1, Pieces: []api.Piece{{Part: at("t", 2), Base: 3, Next: 300, Digest: 5}, {}}}, "\x01\x02\x01t\x02\x03\xac\x02\x05\x00\x00\x00\x00\x00"},
		{api.Manifest{Pieces: []api.Piece{{Part: at("No Name\x00", -1), Base: -2, Next: math.MinInt, Digest: 1 << 63}}},
			"\x00\x01\x08No Name\x00\xff\xff\xff\xff\xff\xff\xff\xff\xff\x01\xfe\xff\xff\xff\xff\xff\xff\xff\xff\x01\x80\x80\x80\x80\x80\x80\x80\x80\x80\x01\x80\x80\x80\x80\x80\x80\x80\x80\x80\x01"},
		{api.Manifest{Pieces: []api.Piece{{Base: -300, Next: math.MaxInt}}}, "\x00\x01\x00\x00\xd4\xfd\xff\xff\xff\xff\xff\xff\xff\x01\xff\xff\xff\xff\xff\xff\xff\xff\x7f\x00"},
	} {
		if got := Digest(row.m); got != plainDigest(row.want) || manifestBytes(row.m) != row.want {
			t.Errorf("Digest(%+v): %x, want %x", row.m, got, plainDigest(row.want))
		}
	}
}

// changes are manifests that differ from one in a single thing.
func changes(m api.Manifest) []api.Manifest {
	other := func(change func(m *api.Manifest)) api.Manifest {
		c := clone(m)
		change(&c)
		return c
	}
	l := []api.Manifest{
		other(func(m *api.Manifest) { m.Small++ }),
		other(func(m *api.Manifest) { m.Small += 1 << 63 }),
		other(func(m *api.Manifest) { m.Pieces = append(m.Pieces, api.Piece{}) }),
		other(func(m *api.Manifest) { m.Pieces = append(m.Pieces, m.Pieces[0]) }),
		other(func(m *api.Manifest) { m.Pieces = m.Pieces[1:] }),
		other(func(m *api.Manifest) { m.Pieces = m.Pieces[:len(m.Pieces)-1] }),
		other(func(m *api.Manifest) { m.Pieces = nil }),
		other(func(m *api.Manifest) { slices.Reverse(m.Pieces) }),
	}
	for i := range m.Pieces {
		l = append(l,
			other(func(m *api.Manifest) { m.Pieces[i].Part.Topic += "x" }),
			other(func(m *api.Manifest) { m.Pieces[i].Part.Topic = "" }),
			other(func(m *api.Manifest) { m.Pieces[i].Part.N += 100 }),
			other(func(m *api.Manifest) { m.Pieces[i].Part.N = -1 }),
			other(func(m *api.Manifest) { m.Pieces[i].Base += 100 }),
			other(func(m *api.Manifest) { m.Pieces[i].Base = -1 }),
			other(func(m *api.Manifest) { m.Pieces[i].Next += 100 }),
			other(func(m *api.Manifest) { m.Pieces[i].Next = -1 }),
			other(func(m *api.Manifest) { m.Pieces[i].Digest++ }),
			other(func(m *api.Manifest) { m.Pieces[i].Digest += 1 << 63 }),
		)
	}
	return l
}

func TestDigestsOfManifestsThatDiffer(t *testing.T) {
	m, _ := mustMake(t, rich())
	l := append(changes(m), m)
	had := map[uint64]int{}
	for i, x := range l {
		got := Digest(x)
		if got != plainDigest(manifestBytes(x)) {
			t.Errorf("%d: Digest(%+v): %x", i, x, got)
		}
		if j, again := had[got]; again && !sameManifest(l[j], x) {
			t.Errorf("%+v and %+v have the same digest", l[j], x)
		}
		had[got] = i
		if Digest(clone(x)) != got {
			t.Errorf("%d: another one, another time", i)
		}
	}
	// Base and Next, of which one grows as the other one lessens, a Topic that takes of what stands behind.
	if Digest(api.Manifest{Pieces: []api.Piece{{Base: 1, Next: 2}}}) == Digest(api.Manifest{Pieces: []api.Piece{{Base: 2, Next: 1}}}) {
		t.Error("Base and Next are told apart")
	}
	for name, s := range states(t) {
		m, _ := mustMake(t, s)
		if got := Digest(m); got != plainDigest(manifestBytes(m)) {
			t.Errorf("%s: %x", name, got)
		}
	}
}

// P14.3

func TestMissing(t *testing.T) {
	m, _ := mustMake(t, rich())
	all := []int{0, 1, 2, 3, 4, 5, 6, 7, 8, 9}
	pieces := func(l ...int) api.Manifest {
		var out api.Manifest
		for _, i := range l {
			out.Pieces = append(out.Pieces, m.Pieces[i])
		}
		return out
	}
	if !sameManifest(pieces(all...), api.Manifest{Pieces: m.Pieces}) {
		t.Fatalf("it has %d pieces", len(m.Pieces))
	}
	for _, row := range []struct {
		name       string
		have, want api.Manifest
		l          []int
	}{
		{"the same", m, m, nil},
		{"another small text", api.Manifest{Small: m.Small + 1, Pieces: m.Pieces}, m, nil},
		{"nothing is there", api.Manifest{}, m, all},
		{"nothing but the small text is", api.Manifest{Small: m.Small}, m, all},
		{"nothing is wanted", m, api.Manifest{Small: 1}, nil},
		{"nothing of nothing", api.Manifest{}, api.Manifest{}, nil},
		{"one is there", pieces(4), m, []int{0, 1, 2, 3, 5, 6, 7, 8, 9}},
		{"all but one are", pieces(9, 7, 6, 5, 4, 3, 2, 1, 0), m, []int{8}},
		{"another order", pieces(9, 8, 7, 6, 5, 4, 3, 2, 1, 0), m, nil},
		{"another order is wanted", pieces(1, 2, 3), pieces(4, 3, 9, 1, 0, 2), []int{0, 2, 4}},
		{"twice there", pieces(1, 1, 5, 5), pieces(1, 2, 5), []int{1}},
		{"twice wanted", pieces(1, 5), pieces(1, 2, 1, 2, 2, 5, 5), []int{1, 3, 4}},
		{"others are there", pieces(0, 1, 2, 3, 4), pieces(5, 6, 7), []int{0, 1, 2}},
	} {
		if got := Missing(row.have, row.want); !slices.Equal(got, row.l) || !slices.Equal(plainMissing(row.have, row.want), row.l) {
			t.Errorf("%s: %v, want %v", row.name, got, row.l)
		}
	}
}

// The same is the same in all.
func TestMissingOfPiecesThatDiffer(t *testing.T) {
	m, _ := mustMake(t, rich())
	for i, x := range changes(m) {
		for _, pair := range [][2]api.Manifest{{m, x}, {x, m}, {x, x}} {
			if got, want := Missing(pair[0], pair[1]), plainMissing(pair[0], pair[1]); !slices.Equal(got, want) {
				t.Errorf("%d: Missing(%+v, %+v): %v, want %v", i, pair[0], pair[1], got, want)
			}
		}
	}
	for i, change := range []func(p *api.Piece){
		func(p *api.Piece) { p.Part.Topic = "u" },
		func(p *api.Piece) { p.Part.Topic = "T" },
		func(p *api.Piece) { p.Part.N++ },
		func(p *api.Piece) { p.Base++ },
		func(p *api.Piece) { p.Next++ },
		func(p *api.Piece) { p.Digest++ },
		func(p *api.Piece) { p.Digest += 1 << 32 },
		func(p *api.Piece) { p.Base, p.Next = p.Next, p.Base },
		func(p *api.Piece) { p.Part.N = -p.Part.N },
		func(p *api.Piece) { p.Base = -p.Base },
	} {
		was := api.Piece{Part: at("t", 1), Base: 2, Next: 3, Digest: 4}
		p := was
		change(&p)
		a, b := api.Manifest{Pieces: []api.Piece{was}}, api.Manifest{Pieces: []api.Piece{was, p, was}}
		if got := Missing(a, b); !slices.Equal(got, []int{1}) {
			t.Errorf("%d: %v", i, got)
		}
	}
}

func TestMissingOfAny(t *testing.T) {
	c := chance(1)
	any := func() api.Manifest {
		m := api.Manifest{Small: uint64(c.below(2))}
		for range c.below(12) {
			m.Pieces = append(m.Pieces, api.Piece{Part: at([]string{"a", "b"}[c.below(2)], c.below(2)), Base: c.below(2), Next: c.below(2) - 1, Digest: uint64(c.below(2))})
		}
		return m
	}
	for range 20000 {
		have, want := any(), any()
		if got, l := Missing(have, want), plainMissing(have, want); !slices.Equal(got, l) {
			t.Fatalf("Missing(%+v, %+v): %v, want %v", have, want, got, l)
		}
	}
}

// chance draws numbers, the same ones each time.
type chance uint64

func (c *chance) below(n int) int {
	*c = *c*6364136223846793005 + 1442695040888963407
	return int(uint64(*c) >> 33 % uint64(n))
}

// R4

// roomy is a list with room behind it, that is filled.
func roomy[T any](l []T, behind T) []T {
	whole := append(slices.Clip(slices.Clone(l)), behind, behind)
	return whole[:len(l)]
}

// spoil fills a list, and the room behind it.
func spoil[T any](l []T, by T) {
	l = l[:cap(l)]
	for i := range l {
		l[i] = by
	}
}

// room gives each list of a state room behind it.
func room(s api.State) api.State {
	s = apart(s)
	s.Topics, s.Epochs, s.Marks = roomy(s.Topics, api.Topic{Name: "room", N: 1}), roomy(s.Epochs, 9), roomy(s.Marks, api.Mark{Group: "room"})
	for i := range s.Logs {
		for j := range s.Logs[i].Segs {
			s.Logs[i].Segs[j].L = roomy(s.Logs[i].Segs[j].L, api.Found{Offset: 9})
		}
		s.Logs[i].Segs = roomy(s.Logs[i].Segs, api.Seg{Base: 9})
	}
	for i := range s.Makers {
		s.Makers[i].Last = roomy(s.Makers[i].Last, api.Did{Seq: 9})
	}
	for i := range s.Groups {
		for j := range s.Groups[i].Seats {
			s.Groups[i].Seats[j].M.Topics = roomy(s.Groups[i].Seats[j].M.Topics, "room")
		}
		s.Groups[i].Seats = roomy(s.Groups[i].Seats, api.Seat{Seen: 9})
	}
	s.Logs, s.Makers, s.Groups = roomy(s.Logs, api.Logged{Part: at("room", 9)}), roomy(s.Makers, api.Maker{Id: 9}), roomy(s.Groups, api.Grouped{Name: "room"})
	return s
}

// whole is a copy of a state and of the room behind its lists.
func whole(s api.State) api.State {
	s.Topics, s.Epochs, s.Marks = s.Topics[:cap(s.Topics)], s.Epochs[:cap(s.Epochs)], s.Marks[:cap(s.Marks)]
	s.Logs, s.Makers, s.Groups = another(s.Logs[:cap(s.Logs)]), another(s.Makers[:cap(s.Makers)]), another(s.Groups[:cap(s.Groups)])
	for i, g := range s.Logs {
		l := another(g.Segs[:cap(g.Segs)])
		for j := range l {
			l[j].L = l[j].L[:cap(l[j].L)]
		}
		s.Logs[i].Segs = l
	}
	for i, m := range s.Makers {
		s.Makers[i].Last = m.Last[:cap(m.Last)]
	}
	for i, g := range s.Groups {
		l := another(g.Seats[:cap(g.Seats)])
		for j := range l {
			l[j].M.Topics = l[j].M.Topics[:cap(l[j].M.Topics)]
		}
		s.Groups[i].Seats = l
	}
	return apart(s)
}

// spoilAll fills all lists of a state, and the room behind them, from within.
func spoilAll(s api.State) {
	for _, g := range s.Logs {
		for _, x := range g.Segs {
			spoil(x.L, api.Found{Offset: 98, R: value("spoilt")})
		}
		spoil(g.Segs, api.Seg{Base: 98, Next: 99})
	}
	for _, m := range s.Makers {
		spoil(m.Last, api.Did{Seq: 98})
	}
	for _, g := range s.Groups {
		for _, x := range g.Seats {
			spoil(x.M.Topics, "spoilt")
		}
		spoil(g.Seats, api.Seat{Seen: 98})
	}
	spoil(s.Topics, api.Topic{Name: "spoilt"})
	spoil(s.Logs, api.Logged{Part: at("spoilt", 98)})
	spoil(s.Epochs, 98)
	spoil(s.Makers, api.Maker{Id: 98})
	spoil(s.Groups, api.Grouped{Name: "spoilt"})
	spoil(s.Marks, api.Mark{Group: "spoilt"})
}

// lengthen puts something behind each list of a state, into its room if it has some, and leaves the state as it is.
func lengthen(s api.State) {
	for i := range s.Logs {
		for j := range s.Logs[i].Segs {
			_ = append(s.Logs[i].Segs[j].L, api.Found{Offset: 98})
		}
		_ = append(s.Logs[i].Segs, api.Seg{Base: 98})
	}
	for i := range s.Makers {
		_ = append(s.Makers[i].Last, api.Did{Seq: 98})
	}
	for i := range s.Groups {
		for j := range s.Groups[i].Seats {
			_ = append(s.Groups[i].Seats[j].M.Topics, "more")
		}
		_ = append(s.Groups[i].Seats, api.Seat{Seen: 98})
	}
	_, _, _ = append(s.Topics, api.Topic{Name: "more"}), append(s.Epochs, 98), append(s.Marks, api.Mark{Group: "more"})
	_, _, _ = append(s.Logs, api.Logged{Part: at("more", 98)}), append(s.Makers, api.Maker{Id: 98}), append(s.Groups, api.Grouped{Name: "more"})
}

// What Small and Make are handed in stays as it was, room and all, and may be spoilt afterwards.
func TestStatesThatAreHandedInStay(t *testing.T) {
	for name, s := range states(t) {
		s = room(s)
		was := whole(s)
		small := mustSmall(t, s)
		m, texts := mustMake(t, s)
		if !reflect.DeepEqual(whole(s), was) {
			t.Errorf("%s: it is now %+v", name, s)
		}
		spoilAll(s)
		if s := states(t)[name]; small != plainSmall(s) {
			t.Errorf("%s: the small text is %q", name, small)
		}
		want, wantTexts := plainMake(states(t)[name])
		if !sameManifest(m, want) || !slices.Equal(texts, wantTexts) {
			t.Errorf("%s: the manifest is %+v, %q", name, m, texts)
		}
	}
}

// What Digest, Missing and Build are handed in stays too.
func TestManifestsThatAreHandedInStay(t *testing.T) {
	for name, s := range states(t) {
		m, texts := plainMake(s)
		m.Pieces, texts = roomy(m.Pieces, api.Piece{Base: 9}), roomy(texts, "room")
		wasPieces, wasTexts := another(m.Pieces[:cap(m.Pieces)]), another(texts[:cap(texts)])
		small := plainSmall(s)
		Digest(m)
		l := Missing(m, m)
		l = append(l, Missing(api.Manifest{}, m)...)
		x, e := Build(m, small, texts)
		_, other := Build(m, small+"x", texts)
		if e != api.OK || other != api.ErrManifestOther || len(l) != len(m.Pieces) {
			t.Errorf("%s: %d, %d, %v", name, e, other, l)
		}
		if !slices.Equal(m.Pieces[:cap(m.Pieces)], wasPieces) || !slices.Equal(texts[:cap(texts)], wasTexts) {
			t.Errorf("%s: it is now %+v, %q", name, m, texts)
		}
		spoil(m.Pieces, api.Piece{Base: 98})
		spoil(texts, "spoilt")
		if !same(x, s) {
			t.Errorf("%s: what was built is %+v", name, x)
		}
	}
}

// What is told is its owner's: spoilt, room and all, it changes nothing of what was told another time; no two of its lists share room.
func TestWhatIsToldIsItsOwners(t *testing.T) {
	for name, s := range states(t) {
		small := mustSmall(t, s)
		m, texts := mustMake(t, s)
		for what, tell := range map[string]func() (api.State, api.State){
			"Parse": func() (api.State, api.State) {
				x, _ := Parse(small)
				return x, bare(s)
			},
			"Build": func() (api.State, api.State) {
				x, _ := Build(m, small, texts)
				return x, s
			},
		} {
			a, want := tell()
			b, _ := tell()
			lengthen(a)
			if !same(a, want) {
				t.Errorf("%s, %s: it is now %+v", name, what, a)
			}
			spoilAll(a)
			if c, _ := tell(); !same(b, want) || !same(c, want) {
				t.Errorf("%s, %s: another one is %+v, %+v", name, what, b, c)
			}
		}
		n, other := mustMake(t, s)
		_, _ = append(n.Pieces, api.Piece{}), append(other, "more")
		spoil(n.Pieces, api.Piece{Base: 98})
		spoil(other, "spoilt")
		l := Missing(api.Manifest{}, m)
		spoil(l, 98)
		want, wantTexts := plainMake(s)
		if !sameManifest(m, want) || !slices.Equal(texts, wantTexts) || !slices.Equal(Missing(api.Manifest{}, m), plainMissing(api.Manifest{}, m)) {
			t.Errorf("%s: the manifest is %+v, %q", name, m, texts)
		}
	}
}

// Of a great text of which names, records, or a small text are pieces, nothing is kept.
func TestGreatTextsAreNotKept(t *testing.T) {
	const size = 1 << 22
	small := mustSmall(t, rich())
	_, texts := plainMake(rich())
	for what, tell := range map[string]func() any{
		"Small": func() any {
			s := one()
			s.Groups[0].Name = (strings.Repeat("g", size) + "x")[:16]
			small, _ := Small(s)
			return small
		},
		"Parse": func() any {
			x, _ := Parse((small + strings.Repeat("x", size))[:len(small)])
			return x
		},
		"Make": func() any {
			great := "t" + strings.Repeat("x", size)
			s := one()
			s.Topics[0].Name, s.Logs[0].Part.Topic, s.Makers[0].Part.Topic, s.Marks[0].Part.Topic = great[:1], great[:1], great[:1], great[:1]
			s.Logs[0].Segs[0].L[0].R.Value = great[:9]
			m, texts, _ := Make(s)
			return []any{m, texts}
		},
		"Build": func() any {
			m, _ := plainMake(rich())
			great := "t" + strings.Repeat("x", size)
			for i, p := range m.Pieces {
				if p.Part.Topic == "t" {
					m.Pieces[i].Part.Topic = great[:1]
				}
			}
			l := another(texts)
			for i, s := range l {
				l[i] = (s + great)[:len(s)]
			}
			x, _ := Build(m, (small + great)[:len(small)], l)
			return x
		},
	} {
		before := heldBytes()
		var kept []any
		for range 4 {
			kept = append(kept, tell())
		}
		if more := heldBytes() - before; more > size {
			t.Errorf("%s: %d bytes more are held", what, more)
		}
		runtime.KeepAlive(kept)
	}
}

// R5: what is told hangs on what is asked alone.
func TestAnswersHangOnNothingElse(t *testing.T) {
	for name, s := range states(t) {
		small := mustSmall(t, s)
		m, texts := mustMake(t, s)
		for range 3 {
			// Of others, and of errors, nothing stays.
			Small(api.State{})
			Parse(small + "x")
			Build(m, "", nil)
			mustMake(t, rich())
			n, other := mustMake(t, s)
			if mustSmall(t, s) != small || !sameManifest(m, n) || !slices.Equal(texts, other) || Digest(m) != Digest(n) {
				t.Errorf("%s: another time another one", name)
			}
		}
		if _, e := broker.Load(s); e != api.OK {
			t.Errorf("%s: it is now %+v", name, s)
		}
	}
}
