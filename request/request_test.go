package request

import (
	"encoding/binary"
	"math"
	"reflect"
	"runtime"
	"slices"
	"strings"
	"testing"

	"stagecoach/api"
)

const top = 1 << 40

// What a kind has, as the chapter's table says it: t and p are Part's Topic and its N, n N, o Offset, b Batch, g Group, m Member, e Gen, r Robin, l Topics.
func has(kind int) string {
	return []string{"tn", "n", "tpb", "tpon", "tpo", "tp", "gmnrl", "gme", "gme", "gme", "gmetpo", "gtp", "n"}[kind]
}

const letters = "tpnobgmerl"

// plainNumber and plainText and plainRecord are bytes as the words of chapters 1 and 3 say them.
func plainNumber(n int) string {
	return string(binary.AppendUvarint(nil, uint64(n)))
}

func plainText(s string) string {
	return plainNumber(len(s)) + s
}

func plainRecord(r api.Record) string {
	switch {
	case r.Tomb:
		return "\x03" + plainText(r.Key)
	case r.HasKey:
		return "\x01" + plainText(r.Key) + plainText(r.Value)
	}
	return "\x00" + plainText(r.Value)
}

func plainBatch(b api.Batch) string {
	s := plainNumber(b.Producer) + plainNumber(b.Epoch) + plainNumber(b.Seq) + plainNumber(len(b.Records))
	for _, r := range b.Records {
		s += plainRecord(r)
	}
	return s
}

func plainTopics(l []string) string {
	s := plainNumber(len(l))
	for _, t := range l {
		s += plainText(t)
	}
	return s
}

// plainThing is what a letter stands for, as bytes.
func plainThing(o api.Op, letter rune) string {
	switch letter {
	case 't':
		return plainText(o.Part.Topic)
	case 'p':
		return plainNumber(o.Part.N)
	case 'n':
		return plainNumber(o.N)
	case 'o':
		return plainNumber(o.Offset)
	case 'b':
		return plainBatch(o.Batch)
	case 'g':
		return plainText(o.Group)
	case 'm':
		return plainText(o.Member)
	case 'e':
		return plainNumber(o.Gen)
	case 'r':
		return map[bool]string{true: "\x01", false: "\x00"}[o.Robin]
	}
	return plainTopics(o.Topics)
}

// plainOp is a command's bytes as the chapter's words say them.
func plainOp(o api.Op) string {
	s := plainNumber(o.Kind)
	for _, letter := range has(o.Kind) {
		s += plainThing(o, letter)
	}
	return s
}

func plainReply(r api.Reply) string {
	s := plainNumber(int(r.E)) + plainNumber(r.Offset) + plainNumber(r.N) + plainNumber(r.Gen)
	s += plainNumber(len(r.Found))
	for _, f := range r.Found {
		s += plainNumber(f.Offset) + plainRecord(f.R)
	}
	s += plainNumber(len(r.Parts))
	for _, p := range r.Parts {
		s += plainText(p.Topic) + plainNumber(p.N)
	}
	return s
}

// setNumber sets the number that a letter stands for, setName the name; each tells whether it stands for one.
func setNumber(o *api.Op, letter rune, n int) bool {
	at := map[rune]*int{'p': &o.Part.N, 'n': &o.N, 'o': &o.Offset, 'e': &o.Gen}[letter]
	if at != nil {
		*at = n
	}
	return at != nil
}

func setName(o *api.Op, letter rune, s string) bool {
	at := map[rune]*string{'t': &o.Part.Topic, 'g': &o.Group, 'm': &o.Member}[letter]
	if at != nil {
		*at = s
	}
	return at != nil
}

func smallBatch() api.Batch {
	return api.Batch{Producer: 1, Epoch: 2, Seq: 3, Records: []api.Record{{HasKey: true, Key: "k", Value: "v"}, {Value: "w"}}}
}

// full is a command of a kind, all whose things are other than zero.
func full(kind int) api.Op {
	o := api.Op{Kind: kind}
	for i, letter := range has(kind) {
		setNumber(&o, letter, 7+i)
		setName(&o, letter, "name-"+string(letter))
		switch letter {
		case 'b':
			o.Batch = smallBatch()
		case 'r':
			o.Robin = true
		case 'l':
			o.Topics = []string{"a", "t"}
		}
	}
	return o
}

func rightNames() []string {
	return []string{"a", "z", "0", "9", "-", "--", "-a", "a-", "a0-z9", "topic", strings.Repeat("a", 15), strings.Repeat("z", 16), "abcdefghijklmnop", "0123456789-az-09"}
}

func wrongNames() []string {
	return []string{"", "A", "Z", "_", " ", "`", "{", "/", ":", ",", ".", "\x00", "\x7f", "\x80", "\xff", "a b", "ab\x00", "\x00ab", "ab\n", "aB",
		"ä", "é", "\u212a", "\uff41", "\u0660", "\u00b2", "\u2010", "a\u0301", "\xc3", "a\xc3", "\ufffd",
		strings.Repeat("a", 17), strings.Repeat("a", 18), strings.Repeat("a", 20000), strings.Repeat("a", 15) + "A", "A" + strings.Repeat("a", 15), strings.Repeat("A", 17)}
}

func edgeNumbers() []int {
	return []int{0, 1, 127, 128, 16383, 16384, top - 1, top}
}

func wrongNumbers() []int {
	return []int{-1, -2, math.MinInt, top + 1, 2 * top, math.MaxInt, -top, 1 << 62}
}

func rightTopics() [][]string {
	return [][]string{
		{"a"}, {"a", "b"}, {"a", "aa"}, {"-", "0"}, {"9", "a"}, {"a-", "a0"}, {"a", "a-"}, {"b", "ba", "c"},
		{"a", "b", "c", "d", "e", "f", "g"}, {"a", "b", "c", "d", "e", "f", "g", "h"},
		{strings.Repeat("a", 15), strings.Repeat("a", 16)},
	}
}

func wrongTopics() [][]string {
	return [][]string{
		nil, {}, {""}, {"A"}, {"a", ""}, {"", "a"}, {"a", "a"}, {"b", "a"}, {"aa", "a"}, {"0", "-"}, {"a", "9"},
		{"a", "b", "b"}, {"a", "c", "b"}, {"b", "a", "c"}, {"a", "B"}, {"a", "b "}, {"a", "b", "a"},
		{"a", "b", "c", "d", "e", "f", "g", "h", "i"}, {"a", "b", "c", "d", "e", "f", "h", "g"},
		{"a", "b", "c", "d", "e", "f", "g", "g"}, make([]string, 9), {strings.Repeat("a", 17)}, {"a", strings.Repeat("b", 17)},
	}
}

type wrongBatch struct {
	b api.Batch
	e api.Errno
}

func wrongBatches() []wrongBatch {
	one := []api.Record{{Value: "v"}}
	l := []wrongBatch{
		{api.Batch{}, api.ErrRecordForm},
		{api.Batch{Producer: 1, Records: []api.Record{}}, api.ErrRecordForm},
		{api.Batch{Records: []api.Record{{Key: "a"}}}, api.ErrRecordForm},
		{api.Batch{Records: []api.Record{{Tomb: true}}}, api.ErrRecordForm},
		{api.Batch{Records: []api.Record{{Value: "v"}, {HasKey: true, Tomb: true, Value: "v"}}}, api.ErrRecordForm},
		{api.Batch{Records: make([]api.Record, 17)}, api.ErrBig},
		{api.Batch{Records: []api.Record{{HasKey: true, Key: strings.Repeat("k", 65)}}}, api.ErrBig},
		{api.Batch{Records: []api.Record{{Value: strings.Repeat("v", 513)}}}, api.ErrBig},
		{api.Batch{Producer: -1, Records: make([]api.Record, 17)}, api.ErrArg},
		{api.Batch{Seq: top + 1}, api.ErrArg},
	}
	for _, n := range wrongNumbers() {
		l = append(l, wrongBatch{api.Batch{Producer: n, Records: one}, api.ErrArg},
			wrongBatch{api.Batch{Epoch: n, Records: one}, api.ErrArg},
			wrongBatch{api.Batch{Seq: n, Records: one}, api.ErrArg})
	}
	return l
}

func rightBatches() []api.Batch {
	return []api.Batch{
		smallBatch(),
		{Records: []api.Record{{}}},
		{Producer: top, Epoch: top, Seq: top, Records: slices.Repeat([]api.Record{{HasKey: true, Key: strings.Repeat("k", 64), Value: strings.Repeat("v", 512)}}, 16)},
		{Producer: 1, Records: []api.Record{{HasKey: true, Key: "k", Tomb: true}, {HasKey: true}, {Value: "\x00\xff"}}},
	}
}

// rightOps are commands that may be, no two alike.
func rightOps() []api.Op {
	var l []api.Op
	add := func(o api.Op) {
		if !slices.ContainsFunc(l, func(x api.Op) bool { return reflect.DeepEqual(x, o) }) {
			l = append(l, o)
		}
	}
	for kind := range api.OpKinds {
		add(full(kind))
		for _, letter := range has(kind) {
			for _, n := range edgeNumbers() {
				if o := full(kind); setNumber(&o, letter, n) {
					add(o)
				}
			}
			for _, s := range rightNames() {
				if o := full(kind); setName(&o, letter, s) {
					add(o)
				}
			}
		}
	}
	for _, x := range rightTopics() {
		o := full(api.OpJoin)
		o.Topics = x
		add(o)
		o.Robin = false
		add(o)
	}
	for _, b := range rightBatches() {
		o := full(api.OpProduce)
		o.Batch = b
		add(o)
	}
	return l
}

// wrongOp is a command that may not be, and why.
type wrongOp struct {
	o api.Op
	e api.Errno
}

// strange are changes by each of which a command has something else than its kind has, if that lacks the letter.
func strange() map[rune][]func(o *api.Op) {
	l := map[rune][]func(o *api.Op){
		'b': {
			func(o *api.Op) { o.Batch.Producer = 1 },
			func(o *api.Op) { o.Batch.Epoch = 1 },
			func(o *api.Op) { o.Batch.Seq = 1 },
			func(o *api.Op) { o.Batch.Seq = -1 },
			func(o *api.Op) { o.Batch.Records = make([]api.Record, 1) },
			func(o *api.Op) { o.Batch = smallBatch() },
		},
		'r': {func(o *api.Op) { o.Robin = true }},
		'l': {
			func(o *api.Op) { o.Topics = []string{"a"} },
			func(o *api.Op) { o.Topics = []string{""} },
			func(o *api.Op) { o.Topics = make([]string, 9) },
		},
	}
	for _, letter := range "pnoe" {
		for _, n := range []int{1, top, -1, top + 1, math.MinInt} {
			l[letter] = append(l[letter], func(o *api.Op) { setNumber(o, letter, n) })
		}
	}
	for _, letter := range "tgm" {
		for _, s := range []string{"a", "A", "\x00", strings.Repeat("a", 17)} {
			l[letter] = append(l[letter], func(o *api.Op) { setName(o, letter, s) })
		}
	}
	return l
}

func wrongOps() []wrongOp {
	var l []wrongOp
	for _, kind := range []int{-1, -2, math.MinInt, 13, 14, 128, 1 << 32, math.MaxInt} {
		l = append(l, wrongOp{api.Op{Kind: kind}, api.ErrRequestKind}, wrongOp{api.Op{Kind: kind, N: -1, Group: "A", Topics: make([]string, 9)}, api.ErrRequestKind})
		for right := range api.OpKinds {
			o := full(right)
			o.Kind = kind
			l = append(l, wrongOp{o, api.ErrRequestKind})
		}
	}
	for kind := range api.OpKinds {
		for letter, changes := range strange() {
			for _, change := range changes {
				o := full(kind)
				change(&o)
				if !strings.ContainsRune(has(kind), letter) {
					l = append(l, wrongOp{o, api.ErrRequestForm})
				}
			}
		}
		for _, letter := range has(kind) {
			for _, s := range wrongNames() {
				if o := full(kind); setName(&o, letter, s) {
					l = append(l, wrongOp{o, api.ErrRequestForm})
				}
			}
			for _, n := range wrongNumbers() {
				if o := full(kind); setNumber(&o, letter, n) {
					l = append(l, wrongOp{o, api.ErrArg})
				}
			}
		}
	}
	for _, x := range wrongTopics() {
		o := full(api.OpJoin)
		o.Topics = x
		l = append(l, wrongOp{o, api.ErrRequestForm})
	}
	for _, x := range wrongBatches() {
		o := full(api.OpProduce)
		o.Batch = x.b
		l = append(l, wrongOp{o, x.e})
	}
	return l
}

// no tells whether a command is zero.
func no(o api.Op) bool {
	return o.Kind == 0 && o.Part == (api.Part{}) && o.N == 0 && o.Offset == 0 && o.Group == "" && o.Member == "" && o.Gen == 0 && !o.Robin && len(o.Topics) == 0 &&
		o.Batch.Producer == 0 && o.Batch.Epoch == 0 && o.Batch.Seq == 0 && len(o.Batch.Records) == 0
}

// noReply tells whether a reply is zero.
func noReply(r api.Reply) bool {
	return r.E == 0 && r.Offset == 0 && r.N == 0 && r.Gen == 0 && len(r.Found) == 0 && len(r.Parts) == 0
}

// tidy makes empty lists nil, so that commands can be held against each other as they are.
func tidy(o api.Op) api.Op {
	if len(o.Topics) == 0 {
		o.Topics = nil
	}
	if len(o.Batch.Records) == 0 {
		o.Batch.Records = nil
	}
	return o
}

func tidyReply(r api.Reply) api.Reply {
	if len(r.Found) == 0 {
		r.Found = nil
	}
	if len(r.Parts) == 0 {
		r.Parts = nil
	}
	return r
}

// P4.1

func TestName(t *testing.T) {
	for _, s := range rightNames() {
		if !Name(s) {
			t.Errorf("%q is a name", s)
		}
	}
	for _, s := range wrongNames() {
		if Name(s) {
			t.Errorf("%q is no name", s)
		}
	}
	for n := range 40 {
		if got, want := Name(strings.Repeat("a", n)), 1 <= n && n <= 16; got != want {
			t.Errorf("a name of %d bytes: %v", n, got)
		}
	}
}

func TestNameOfEachByte(t *testing.T) {
	for n := range 256 {
		s := string([]byte{byte(n)})
		want := strings.Contains("abcdefghijklmnopqrstuvwxyz0123456789-", s)
		for _, x := range []string{s, "a" + s, s + "a", "a" + s + "a", strings.Repeat("a", 15) + s, s + strings.Repeat("a", 15)} {
			if Name(x) != want {
				t.Errorf("%q: %v", x, !want)
			}
		}
	}
}

func TestCheck(t *testing.T) {
	for _, o := range rightOps() {
		if e := Check(o); e != api.OK {
			t.Errorf("%#v: %d", o, e)
		}
	}
	for _, x := range wrongOps() {
		if e := Check(x.o); e != x.e {
			t.Errorf("%#v: %d, want %d", x.o, e, x.e)
		}
	}
}

func TestCheckOfLeastCommands(t *testing.T) {
	for kind := range api.OpKinds {
		o := full(kind)
		for _, letter := range has(kind) {
			setNumber(&o, letter, 0)
			setName(&o, letter, "a")
		}
		o.Robin = false
		if e := Check(o); e != api.OK {
			t.Errorf("%#v: %d", o, e)
		}
	}
}

func TestAnEmptyListIsNone(t *testing.T) {
	for kind := range api.OpKinds {
		o := full(kind)
		if o.Topics == nil {
			o.Topics = []string{}
		}
		if o.Batch.Records == nil {
			o.Batch.Records = []api.Record{}
		}
		if e := Check(o); e != api.OK {
			t.Errorf("%#v: %d", o, e)
		}
		if s, e := Put(o); s != plainOp(o) || e != api.OK {
			t.Errorf("%#v: %x, %d", o, s, e)
		}
	}
}

func TestOfTwoErrorsTheFirst(t *testing.T) {
	order := []api.Errno{api.ErrRequestKind, api.ErrRequestForm, api.ErrArg}
	type fault struct {
		rank   int
		change func(o *api.Op)
	}
	for kind := range api.OpKinds {
		faults := []fault{{0, func(o *api.Op) { o.Kind = 13 }}, {0, func(o *api.Op) { o.Kind = -1 }}}
		for letter, changes := range strange() {
			if !strings.ContainsRune(has(kind), letter) {
				for _, change := range changes {
					faults = append(faults, fault{1, change})
				}
			}
		}
		for _, letter := range has(kind) {
			if o := full(kind); setName(&o, letter, "") {
				faults = append(faults, fault{1, func(o *api.Op) { setName(o, letter, "A") }})
			}
			if o := full(kind); setNumber(&o, letter, 0) {
				faults = append(faults, fault{2, func(o *api.Op) { setNumber(o, letter, -1) }}, fault{2, func(o *api.Op) { setNumber(o, letter, top+1) }})
			}
		}
		if kind == api.OpJoin {
			faults = append(faults, fault{1, func(o *api.Op) { o.Topics = nil }}, fault{1, func(o *api.Op) { o.Topics = []string{"b", "a"} }})
		}
		for _, a := range faults {
			for _, b := range faults {
				o := full(kind)
				a.change(&o)
				b.change(&o)
				if want := order[min(a.rank, b.rank)]; Check(o) != want {
					t.Errorf("%#v: %d, want %d", o, Check(o), want)
				}
				if kind != api.OpProduce {
					continue
				}
				for _, x := range wrongBatches() {
					o.Batch = x.b
					if want := order[min(a.rank, b.rank)]; Check(o) != want {
						t.Errorf("%#v: %d, want %d", o, Check(o), want)
					}
				}
			}
		}
	}
}

// P4.2

func TestPutExamples(t *testing.T) {
	p := api.Part{Topic: "t", N: 1}
	for _, x := range []struct {
		o    api.Op
		want string
	}{
		{api.Op{Kind: api.OpTick, N: 5}, "\x0c\x05"},
		{api.Op{Kind: api.OpTopic, Part: api.Part{Topic: "a"}, N: 2}, "\x00\x01a\x02"},
		{api.Op{Kind: api.OpProducer}, "\x01\x00"},
		{api.Op{Kind: api.OpProducer, N: top}, "\x01\x80\x80\x80\x80\x80\x20"},
		{api.Op{Kind: api.OpProduce, Part: p, Batch: smallBatch()}, "\x02\x01t\x01\x01\x02\x03\x02\x01\x01k\x01v\x00\x01w"},
		{api.Op{Kind: api.OpFetch, Part: p, Offset: 300, N: 5}, "\x03\x01t\x01\xac\x02\x05"},
		{api.Op{Kind: api.OpRetain, Part: p, Offset: 4}, "\x04\x01t\x01\x04"},
		{api.Op{Kind: api.OpCompact, Part: p}, "\x05\x01t\x01"},
		{api.Op{Kind: api.OpJoin, Group: "g", Member: "m", N: 9, Robin: true, Topics: []string{"a", "bc"}}, "\x06\x01g\x01m\x09\x01\x02\x01a\x02bc"},
		{api.Op{Kind: api.OpJoin, Group: "g", Member: "m", N: 9, Topics: []string{"a"}}, "\x06\x01g\x01m\x09\x00\x01\x01a"},
		{api.Op{Kind: api.OpBeat, Group: "g", Member: "m", Gen: 2}, "\x07\x01g\x01m\x02"},
		{api.Op{Kind: api.OpLeave, Group: "g", Member: "m", Gen: 2}, "\x08\x01g\x01m\x02"},
		{api.Op{Kind: api.OpAssigned, Group: "g", Member: "m", Gen: 2}, "\x09\x01g\x01m\x02"},
		{api.Op{Kind: api.OpCommit, Group: "g", Member: "m", Gen: 2, Part: p, Offset: 7}, "\x0a\x01g\x01m\x02\x01t\x01\x07"},
		{api.Op{Kind: api.OpCommitted, Group: "g", Part: p}, "\x0b\x01g\x01t\x01"},
	} {
		if s, e := Put(x.o); s != x.want || e != api.OK {
			t.Errorf("%#v: %x, %d, want %x", x.o, s, e, x.want)
		}
		if o, e := Get(x.want); !reflect.DeepEqual(tidy(o), x.o) || e != api.OK {
			t.Errorf("%x: %#v, %d, want %#v", x.want, o, e, x.o)
		}
	}
}

func TestPutIsByTheWords(t *testing.T) {
	for _, o := range rightOps() {
		if s, e := Put(o); s != plainOp(o) || e != api.OK {
			t.Errorf("%#v: %x, %d", o, s, e)
		}
	}
}

func TestPutRefuses(t *testing.T) {
	for _, x := range wrongOps() {
		if s, e := Put(x.o); s != "" || e != x.e {
			t.Errorf("%#v: %x, %d, want %d", x.o, s, e, x.e)
		}
	}
}

// refused asks for an error of bytes that are no command's.
func refused(t *testing.T, s string) {
	t.Helper()
	if o, e := Get(s); !no(o) || e != api.ErrRequestForm {
		t.Errorf("%x: %#v, %d", s, o, e)
	}
}

func TestGetRefuses(t *testing.T) {
	const (
		over = "\x81\x80\x80\x80\x80\x20"                 // 2^40 + 1
		all  = "\xff\xff\xff\xff\xff\xff\xff\xff\xff\x01" // 2^64 - 1
		min  = "\x80\x80\x80\x80\x80\x80\x80\x80\x80\x01" // 2^63
	)
	for _, s := range []string{
		"", "\x00", "\x80", "\x0c", "\x0c\x80",
		// A kind that is none, whatever stands behind.
		"\x0d", "\x0d\x05", "\x0e\x05", "\x80\x01\x05", over + "\x05", all + "\x05", min + "\x05", "\xff\x01\x05",
		// Numbers in more bytes than they need.
		"\x8c\x00\x05", "\x0c\x85\x00", "\x80\x00\x01a\x02", "\x00\x81\x00a\x02", "\x00\x01a\x82\x00",
		"\x06\x01g\x01m\x09\x81\x00\x01\x01a", "\x06\x01g\x01m\x09\x01\x81\x00\x01a", "\x06\x01g\x01m\x09\x01\x01\x81\x00a",
		"\x02\x01t\x01\x81\x00\x00\x00\x01\x00\x00", "\x02\x01t\x01\x00\x00\x00\x81\x00\x00\x00", "\x02\x01t\x01\x00\x00\x00\x01\x00\x80\x00",
		// Numbers that are none.
		"\x0c" + over, "\x0c" + all, "\x0c" + min, "\x01" + over, "\x00\x01a" + over, "\x03\x01t" + over + "\x00\x00", "\x03\x01t\x00" + over + "\x00",
		"\x03\x01t\x00\x00" + over, "\x04\x01t\x00" + over, "\x05\x01t" + over, "\x05\x01t" + all, "\x06\x01g\x01m" + over + "\x00\x01\x01a",
		"\x07\x01g\x01m" + over, "\x08\x01g\x01m" + over, "\x09\x01g\x01m" + over, "\x0a\x01g\x01m" + over + "\x01t\x00\x00",
		"\x0a\x01g\x01m\x00\x01t" + over + "\x00", "\x0a\x01g\x01m\x00\x01t\x00" + over, "\x0b\x01g\x01t" + over,
		// Names that are none.
		"\x00\x00\x02", "\x00\x01A\x02", "\x00\x01\x00\x02", "\x00\x02\xc3\xa4\x02", "\x00\x11" + strings.Repeat("a", 17) + "\x02", "\x00" + all + "a\x02",
		"\x07\x00\x01m\x02", "\x07\x01g\x00\x02", "\x07\x01G\x01m\x02", "\x07\x01g\x01M\x02", "\x0b\x00\x01t\x00", "\x0b\x01g\x00\x00",
		// Robin: a number, 1 or 0.
		"\x06\x01g\x01m\x09\x02\x01\x01a", "\x06\x01g\x01m\x09\x03\x01\x01a", "\x06\x01g\x01m\x09\xff\x01\x01\x01a", "\x06\x01g\x01m\x09" + all + "\x01\x01a",
		// Topics: 1 to 8, names, rising.
		"\x06\x01g\x01m\x09\x01\x00", "\x06\x01g\x01m\x09\x01\x01\x00", "\x06\x01g\x01m\x09\x01\x01\x01A", "\x06\x01g\x01m\x09\x01\x02\x01a\x01a",
		"\x06\x01g\x01m\x09\x01\x02\x01b\x01a", "\x06\x01g\x01m\x09\x01\x02\x02aa\x01a", "\x06\x01g\x01m\x09\x01\x09\x01a\x01b\x01c\x01d\x01e\x01f\x01g\x01h\x01i",
		"\x06\x01g\x01m\x09\x01\x09", "\x06\x01g\x01m\x09\x01" + all, "\x06\x01g\x01m\x09\x01" + min, "\x06\x01g\x01m\x09\x01\x80\x80\x80\x80\x80\x20",
		"\x06\x01g\x01m\x09\x01\x01\x11" + strings.Repeat("a", 17),
		// A batch that may not be.
		"\x02\x01t\x01\x00\x00\x00\x00", "\x02\x01t\x01\x00\x00\x00\x11" + strings.Repeat("\x00\x00", 17), "\x02\x01t\x01\x00\x00\x00\x01\x02\x00",
		"\x02\x01t\x01" + over + "\x00\x00\x01\x00\x00", "\x02\x01t\x01\x00" + over + "\x00\x01\x00\x00", "\x02\x01t\x01\x00\x00" + over + "\x01\x00\x00",
		"\x02\x01t\x01\x00\x00\x00\x01\x01\x41" + strings.Repeat("k", 65) + "\x00", "\x02\x01t\x01\x00\x00\x00\x01\x00\x81\x04" + strings.Repeat("v", 513),
	} {
		refused(t, s)
	}
}

func TestGetWhereverBytesEnd(t *testing.T) {
	for _, o := range rightOps() {
		s := plainOp(o)
		for n := range len(s) {
			refused(t, s[:n])
		}
	}
}

func TestGetOfMoreBytes(t *testing.T) {
	for _, o := range rightOps() {
		s := plainOp(o)
		for _, more := range []string{"\x00", "\x01", "\x80", "\xff", "a", s} {
			refused(t, s+more)
			refused(t, more+s[1:]+more)
		}
	}
}

func TestGetOfOtherKinds(t *testing.T) {
	for kind := range api.OpKinds {
		s := plainOp(full(kind))
		for n := range 256 {
			if n < api.OpKinds && has(n) == has(kind) {
				continue
			}
			o, e := Get(string([]byte{byte(n)}) + s[1:])
			if e == api.OK && plainOp(o) != string([]byte{byte(n)})+s[1:] || e != api.OK && (e != api.ErrRequestForm || !no(o)) {
				t.Errorf("%x as kind %d: %#v, %d", s, n, o, e)
			}
			if n >= api.OpKinds && e != api.ErrRequestForm {
				t.Errorf("kind %d: %d", n, e)
			}
		}
	}
}

// P4.3

func someFound(n int) []api.Found {
	l := make([]api.Found, n)
	for i := range l {
		l[i] = api.Found{Offset: i * i, R: []api.Record{{}, {Value: "v"}, {HasKey: true, Key: "k", Tomb: true}, {HasKey: true, Key: "k", Value: "v"}}[i%4]}
	}
	return l
}

func someParts(n int) []api.Part {
	l := make([]api.Part, n)
	for i := range l {
		l[i] = api.Part{Topic: rightNames()[i%len(rightNames())], N: i}
	}
	return l
}

func fullReply() api.Reply {
	return api.Reply{E: api.ErrArg, Offset: 300, N: 1, Gen: 2, Found: []api.Found{{Offset: 5, R: api.Record{HasKey: true, Key: "k", Value: "v"}}}, Parts: []api.Part{{Topic: "t", N: 1}, {Topic: "u"}}}
}

// numberPlaces are where a reply's numbers stand, but E.
func numberPlaces(r *api.Reply) []*int {
	l := []*int{&r.Offset, &r.N, &r.Gen}
	for i := range r.Found {
		l = append(l, &r.Found[i].Offset)
	}
	for i := range r.Parts {
		l = append(l, &r.Parts[i].N)
	}
	return l
}

// rightReplies are replies that may be, no two alike.
func rightReplies() []api.Reply {
	l := []api.Reply{{}, fullReply()}
	for _, n := range edgeNumbers() {
		if n > 0 {
			r := fullReply()
			r.E = api.Errno(n + 1)
			if n == top {
				r.E = top
			}
			if n != top-1 {
				l = append(l, r)
			}
		}
		for i := range numberPlaces(&api.Reply{Found: make([]api.Found, 1), Parts: make([]api.Part, 2)}) {
			r := fullReply()
			if at := numberPlaces(&r)[i]; *at != n {
				*at = n
				l = append(l, r)
			}
		}
	}
	for _, n := range []int{1, 2, 3, 63, 64} {
		l = append(l, api.Reply{Found: someFound(n)}, api.Reply{Parts: someParts(n)}, api.Reply{N: n, Found: someFound(n), Parts: someParts(n)})
	}
	l = append(l, api.Reply{Found: slices.Repeat([]api.Found{{Offset: top, R: api.Record{HasKey: true, Key: strings.Repeat("k", 64), Value: strings.Repeat("v", 512)}}}, 64)})
	for _, s := range rightNames() {
		l = append(l, api.Reply{Parts: []api.Part{{Topic: s, N: 100}}})
	}
	return l
}

type wrongReply struct {
	r api.Reply
	e api.Errno
}

func wrongRecords() []api.Record {
	return []api.Record{{Key: "a"}, {Tomb: true}, {HasKey: true, Tomb: true, Value: "v"}, {Key: "a", Tomb: true}, {HasKey: true, Key: strings.Repeat("k", 65)}, {Value: strings.Repeat("v", 513)}}
}

func wrongReplies() []wrongReply {
	var l []wrongReply
	for _, n := range wrongNumbers() {
		r := fullReply()
		r.E = api.Errno(n)
		l = append(l, wrongReply{r, api.ErrArg}, wrongReply{api.Reply{E: api.Errno(n)}, api.ErrArg})
		for i := range numberPlaces(&r) {
			r := fullReply()
			*numberPlaces(&r)[i] = n
			l = append(l, wrongReply{r, api.ErrArg})
			// Ahead of all else.
			r.Found, r.Parts = append(r.Found, make([]api.Found, 64)...), append(r.Parts, make([]api.Part, 64)...)
			l = append(l, wrongReply{r, api.ErrArg})
		}
		many := someFound(65)
		many[64].Offset = n
		l = append(l, wrongReply{api.Reply{Found: many}, api.ErrArg})
		parts := someParts(65)
		parts[64].N = n
		l = append(l, wrongReply{api.Reply{Parts: parts}, api.ErrArg})
		l = append(l, wrongReply{api.Reply{Gen: n, Found: []api.Found{{R: api.Record{Key: "a"}}}}, api.ErrArg})
		l = append(l, wrongReply{api.Reply{Gen: n, Parts: []api.Part{{Topic: "A"}}}, api.ErrArg})
	}
	for _, n := range []int{65, 66, 100, 300} {
		l = append(l, wrongReply{api.Reply{Found: someFound(n)}, api.ErrBig}, wrongReply{api.Reply{Parts: someParts(n)}, api.ErrBig},
			wrongReply{api.Reply{Found: someFound(64), Parts: someParts(n)}, api.ErrBig}, wrongReply{api.Reply{Found: someFound(n), Parts: someParts(64)}, api.ErrBig},
			wrongReply{api.Reply{Parts: make([]api.Part, n)}, api.ErrBig},
			wrongReply{api.Reply{Found: someFound(n), Parts: make([]api.Part, 1)}, api.ErrBig},
			wrongReply{api.Reply{Found: []api.Found{{R: api.Record{Key: "a"}}}, Parts: someParts(n)}, api.ErrBig})
		found := someFound(n)
		found[0].R = api.Record{Key: "a"}
		l = append(l, wrongReply{api.Reply{Found: found}, api.ErrBig})
	}
	for _, x := range wrongRecords() {
		for i := range 3 {
			found := someFound(3)
			found[i].R = x
			l = append(l, wrongReply{api.Reply{Found: found}, api.ErrRequestForm})
		}
		found := someFound(64)
		found[63].R = x
		l = append(l, wrongReply{api.Reply{Found: found, Parts: someParts(3)}, api.ErrRequestForm})
	}
	for _, s := range wrongNames() {
		for i := range 3 {
			parts := someParts(3)
			parts[i].Topic = s
			l = append(l, wrongReply{api.Reply{Parts: parts}, api.ErrRequestForm})
		}
		parts := someParts(64)
		parts[63].Topic = s
		l = append(l, wrongReply{api.Reply{Found: someFound(3), Parts: parts}, api.ErrRequestForm})
	}
	return l
}

func TestReplyExamples(t *testing.T) {
	for _, x := range []struct {
		r    api.Reply
		want string
	}{
		{api.Reply{}, "\x00\x00\x00\x00\x00\x00"},
		{fullReply(), "\x01\xac\x02\x01\x02\x01\x05\x01\x01k\x01v\x02\x01t\x01\x01u\x00"},
		{api.Reply{E: api.ErrRecordForm, N: 128}, "\x1e\x00\x80\x01\x00\x00\x00"},
		{api.Reply{Gen: 3, Parts: []api.Part{{Topic: "a-b", N: 300}}}, "\x00\x00\x00\x03\x00\x01\x03a-b\xac\x02"},
		{api.Reply{Offset: 4, N: 9, Found: []api.Found{{Offset: 4}, {Offset: 8, R: api.Record{HasKey: true, Key: "k", Tomb: true}}}}, "\x00\x04\x09\x00\x02\x04\x00\x00\x08\x03\x01k\x00"},
	} {
		if s, e := Reply(x.r); s != x.want || e != api.OK {
			t.Errorf("%#v: %x, %d, want %x", x.r, s, e, x.want)
		}
		if r, e := Parse(x.want); !reflect.DeepEqual(tidyReply(r), x.r) || e != api.OK {
			t.Errorf("%x: %#v, %d, want %#v", x.want, r, e, x.r)
		}
	}
}

func TestReplyIsByTheWords(t *testing.T) {
	for _, r := range rightReplies() {
		if s, e := Reply(r); s != plainReply(r) || e != api.OK {
			t.Errorf("%#v: %x, %d", r, s, e)
		}
	}
	if s, e := Reply(api.Reply{Found: []api.Found{}, Parts: []api.Part{}}); s != "\x00\x00\x00\x00\x00\x00" || e != api.OK {
		t.Errorf("empty lists: %x, %d", s, e)
	}
}

func TestReplyRefuses(t *testing.T) {
	for _, x := range wrongReplies() {
		if s, e := Reply(x.r); s != "" || e != x.e {
			t.Errorf("%#v: %x, %d, want %d", x.r, s, e, x.e)
		}
	}
}

// refusedReply asks for an error of bytes that are no reply's.
func refusedReply(t *testing.T, s string) {
	t.Helper()
	if r, e := Parse(s); !noReply(r) || e != api.ErrRequestForm {
		t.Errorf("%x: %#v, %d", s, r, e)
	}
}

func TestParseRefuses(t *testing.T) {
	const (
		over = "\x81\x80\x80\x80\x80\x20"                 // 2^40 + 1
		all  = "\xff\xff\xff\xff\xff\xff\xff\xff\xff\x01" // 2^64 - 1
	)
	zeros := func(n int) string { return strings.Repeat("\x00", n) }
	for _, s := range []string{
		"", zeros(1), zeros(4), zeros(5), zeros(7), "\x80",
		// Numbers that are none.
		over + zeros(5), zeros(1) + over + zeros(4), zeros(2) + over + zeros(3), zeros(3) + over + zeros(2),
		all + zeros(5), zeros(1) + all + zeros(4), zeros(2) + all + zeros(3), zeros(3) + all + zeros(2),
		zeros(4) + "\x01" + over + "\x00\x00\x00", zeros(4) + "\x01" + all + "\x00\x00\x00", zeros(5) + "\x01\x01t" + over, zeros(5) + "\x01\x01t" + all,
		// In more bytes than they need.
		"\x80\x00" + zeros(5), "\x00\x81\x00" + zeros(4), zeros(2) + "\x80\x00" + zeros(3), zeros(3) + "\x80\x00" + zeros(2), zeros(4) + "\x80\x00\x00",
		zeros(5) + "\x80\x00", zeros(4) + "\x81\x00\x00\x00\x00\x00", zeros(4) + "\x01\x80\x00\x00\x00\x00", zeros(5) + "\x01\x81\x00t\x00", zeros(5) + "\x01\x01t\x80\x00",
		// Too many, whether they are there or not.
		zeros(4) + "\x41" + strings.Repeat("\x00\x00\x00", 65) + "\x00", zeros(5) + "\x41" + strings.Repeat("\x01t\x00", 65),
		zeros(4) + "\x41\x00", zeros(5) + "\x41", zeros(4) + all + "\x00", zeros(5) + all, zeros(4) + over + "\x00", zeros(4) + "\xff\xff\xff\xff\x0f\x00",
		// Records that may not be, topics that are no names.
		zeros(4) + "\x01\x00\x02\x00\x00", zeros(4) + "\x01\x00\x01\x41" + strings.Repeat("k", 65) + "\x00\x00", zeros(4) + "\x01\x00\x00\x81\x04" + strings.Repeat("v", 513) + "\x00",
		zeros(5) + "\x01\x00\x00", zeros(5) + "\x01\x01A\x00", zeros(5) + "\x01\x11" + strings.Repeat("a", 17) + "\x00", zeros(5) + "\x02\x01t\x00\x00\x00",
	} {
		refusedReply(t, s)
	}
}

func TestParseWhereverBytesEnd(t *testing.T) {
	for _, r := range rightReplies() {
		s := plainReply(r)
		for n := range min(len(s), 3000) {
			refusedReply(t, s[:n])
		}
		refusedReply(t, s[:len(s)-1])
		for _, more := range []string{"\x00", "\x01", "\xff", s} {
			refusedReply(t, s+more)
		}
	}
}

// P4.4

// changesOfOps are changes by each of which a command becomes another one.
func changesOfOps() []func(o *api.Op) {
	return []func(o *api.Op){
		func(o *api.Op) { o.Kind++ },
		func(o *api.Op) { o.Part.Topic += "x" },
		func(o *api.Op) { o.Part.N++ },
		func(o *api.Op) { o.N-- },
		func(o *api.Op) { o.Offset++ },
		func(o *api.Op) { o.Batch.Producer++ },
		func(o *api.Op) { o.Batch.Epoch++ },
		func(o *api.Op) { o.Batch.Seq-- },
		func(o *api.Op) { o.Batch.Records = append(slices.Clone(o.Batch.Records), api.Record{}) },
		func(o *api.Op) { o.Group += "x" },
		func(o *api.Op) { o.Member += "x" },
		func(o *api.Op) { o.Gen++ },
		func(o *api.Op) { o.Robin = !o.Robin },
		func(o *api.Op) { o.Topics = append(slices.Clone(o.Topics), "") },
	}
}

// changesOfLists are changes that need lists of two.
func changesOfLists() []func(o *api.Op) {
	return []func(o *api.Op){
		func(o *api.Op) { o.Batch.Records[1].HasKey = !o.Batch.Records[1].HasKey },
		func(o *api.Op) { o.Batch.Records[0].Key += "x" },
		func(o *api.Op) { o.Batch.Records[1].Tomb = !o.Batch.Records[1].Tomb },
		func(o *api.Op) { o.Batch.Records[1].Value += "x" },
		func(o *api.Op) { o.Batch.Records = o.Batch.Records[:1] },
		func(o *api.Op) { o.Batch.Records = nil },
		func(o *api.Op) { slices.Reverse(o.Batch.Records) },
		func(o *api.Op) { o.Topics[0] += "x" },
		func(o *api.Op) { o.Topics[1] += "x" },
		func(o *api.Op) { o.Topics = o.Topics[:1] },
		func(o *api.Op) { o.Topics = nil },
		func(o *api.Op) { slices.Reverse(o.Topics) },
	}
}

// anyOp is a command that may not be, all of whose things are other than zero.
func anyOp() api.Op {
	return api.Op{Kind: -3, Part: api.Part{Topic: "t", N: -1}, N: 4, Offset: -5, Batch: smallBatch(), Group: "G", Member: "m", Gen: 6, Robin: true, Topics: []string{"b", "a"}}
}

func TestSame(t *testing.T) {
	for _, make := range []func() api.Op{anyOp, func() api.Op { return api.Op{} }} {
		if !Same(make(), make()) {
			t.Errorf("%#v is not the same as itself", make())
		}
		for i, change := range changesOfOps() {
			o := make()
			change(&o)
			if Same(make(), o) || Same(o, make()) {
				t.Errorf("change %d of %#v: the same", i, make())
			}
			if !Same(o, o) {
				t.Errorf("%#v is not the same as itself", o)
			}
		}
	}
	for i, change := range changesOfLists() {
		o := anyOp()
		change(&o)
		if Same(anyOp(), o) || Same(o, anyOp()) {
			t.Errorf("change %d of a list: the same", i)
		}
	}
	empty := api.Op{Topics: []string{}, Batch: api.Batch{Records: []api.Record{}}}
	if !Same(empty, api.Op{}) || !Same(api.Op{}, empty) {
		t.Error("an empty list is not the same as none")
	}
}

func TestSameIsOfAllCommandsItself(t *testing.T) {
	l := rightOps()
	for i, a := range l {
		for j, b := range l {
			if Same(a, b) != (i == j) {
				t.Fatalf("%#v, %#v: %v", a, b, i != j)
			}
		}
	}
}

func TestAlike(t *testing.T) {
	long := func() api.Reply {
		return api.Reply{E: -1, Offset: -2, N: 3, Gen: 4, Found: someFound(3), Parts: someParts(3)}
	}
	if !Alike(long(), long()) || !Alike(api.Reply{}, api.Reply{}) || !Alike(api.Reply{Found: []api.Found{}, Parts: []api.Part{}}, api.Reply{}) || !Alike(api.Reply{}, api.Reply{Found: []api.Found{}, Parts: []api.Part{}}) {
		t.Error("a reply is not the same as itself")
	}
	for i, change := range []func(r *api.Reply){
		func(r *api.Reply) { r.E++ },
		func(r *api.Reply) { r.Offset++ },
		func(r *api.Reply) { r.N++ },
		func(r *api.Reply) { r.Gen-- },
		func(r *api.Reply) { r.Found = nil },
		func(r *api.Reply) { r.Found = r.Found[:2] },
		func(r *api.Reply) { r.Found = append(r.Found, api.Found{}) },
		func(r *api.Reply) { r.Found[0].Offset++ },
		func(r *api.Reply) { r.Found[2].R.HasKey = !r.Found[2].R.HasKey },
		func(r *api.Reply) { r.Found[2].R.Key += "x" },
		func(r *api.Reply) { r.Found[2].R.Tomb = !r.Found[2].R.Tomb },
		func(r *api.Reply) { r.Found[1].R.Value += "x" },
		func(r *api.Reply) { slices.Reverse(r.Found) },
		func(r *api.Reply) { r.Parts = nil },
		func(r *api.Reply) { r.Parts = r.Parts[:2] },
		func(r *api.Reply) { r.Parts = append(r.Parts, api.Part{}) },
		func(r *api.Reply) { r.Parts[0].Topic += "x" },
		func(r *api.Reply) { r.Parts[2].N++ },
		func(r *api.Reply) { slices.Reverse(r.Parts) },
	} {
		r := long()
		change(&r)
		if Alike(long(), r) || Alike(r, long()) {
			t.Errorf("change %d: the same", i)
		}
	}
	l := rightReplies()
	for i, a := range l {
		for j, b := range l {
			if Alike(a, b) != (i == j) {
				t.Fatalf("%#v, %#v: %v", a, b, i != j)
			}
		}
	}
}

// P4.5

func TestCommandsAreGotAsPut(t *testing.T) {
	had := map[string]bool{}
	for _, o := range rightOps() {
		s, _ := Put(o)
		if had[s] {
			t.Errorf("%#v has another one's bytes", o)
		}
		had[s] = true
		if got, e := Get(s); !reflect.DeepEqual(tidy(got), o) || e != api.OK {
			t.Errorf("%x: %#v, %d, want %#v", s, got, e, o)
		}
	}
}

func TestRepliesAreGotAsPut(t *testing.T) {
	had := map[string]bool{}
	for _, r := range rightReplies() {
		s, _ := Reply(r)
		if had[s] {
			t.Errorf("%#v has another one's bytes", r)
		}
		had[s] = true
		if got, e := Parse(s); !reflect.DeepEqual(tidyReply(got), r) || e != api.OK {
			t.Errorf("%x: %#v, %d, want %#v", s, got, e, r)
		}
	}
}

// others are texts that differ from another one in a byte.
func others(s string) []string {
	var l []string
	for at := range min(len(s), 100) {
		for n := range 256 {
			if byte(n) != s[at] {
				l = append(l, s[:at]+string([]byte{byte(n)})+s[at+1:])
			}
		}
	}
	return l
}

func TestNoOtherBytesAreACommands(t *testing.T) {
	for kind := range api.OpKinds {
		for _, s := range others(plainOp(full(kind))) {
			o, e := Get(s)
			if e != api.OK {
				if e != api.ErrRequestForm || !no(o) {
					t.Fatalf("%x: %#v, %d", s, o, e)
				}
				continue
			}
			if back, e := Put(o); back != s || e != api.OK || plainOp(o) != s {
				t.Fatalf("%x was got as %#v, which is put as %x, %d", s, o, back, e)
			}
		}
	}
}

func TestNoOtherBytesAreAReplys(t *testing.T) {
	for _, x := range []api.Reply{{}, fullReply(), {E: 128, N: top, Found: someFound(4), Parts: someParts(2)}} {
		for _, s := range others(plainReply(x)) {
			r, e := Parse(s)
			if e != api.OK {
				if e != api.ErrRequestForm || !noReply(r) {
					t.Fatalf("%x: %#v, %d", s, r, e)
				}
				continue
			}
			if back, e := Reply(r); back != s || e != api.OK || plainReply(r) != s {
				t.Fatalf("%x was got as %#v, which is put as %x, %d", s, r, back, e)
			}
		}
	}
}

// R4

func TestWhatIsHandedInStays(t *testing.T) {
	topics := func() []string { return []string{"a", "b", "behind", "it"} }
	records := func() []api.Record {
		return []api.Record{{Value: "v"}, {HasKey: true, Key: "k"}, {Value: "behind"}, {Value: "it"}}
	}
	l, r := topics(), records()
	join, produce := full(api.OpJoin), full(api.OpProduce)
	join.Topics, produce.Batch.Records = l[:2], r[:2]
	Check(join)
	Check(produce)
	Put(join)
	Put(produce)
	Same(join, produce)
	if !slices.Equal(l, topics()) || !slices.Equal(r, records()) {
		t.Errorf("%#v, %#v afterwards", l, r)
	}
	found, parts := someFound(5), someParts(5)
	reply := api.Reply{Found: found[:3], Parts: parts[:3]}
	Reply(reply)
	Alike(reply, reply)
	if !slices.Equal(found, someFound(5)) || !slices.Equal(parts, someParts(5)) {
		t.Errorf("%#v, %#v afterwards", found, parts)
	}
}

func TestWhatIsToldIsItsOwners(t *testing.T) {
	for _, o := range []api.Op{full(api.OpJoin), full(api.OpProduce)} {
		s := plainOp(o)
		a, _ := Get(s)
		b, _ := Get(s)
		// All the room is written to, the spare one too.
		for i := range a.Topics[:cap(a.Topics)] {
			a.Topics[:cap(a.Topics)][i] = "another"
		}
		for i := range a.Batch.Records[:cap(a.Batch.Records)] {
			a.Batch.Records[:cap(a.Batch.Records)][i].Value = "another"
		}
		c, _ := Get(s)
		if !reflect.DeepEqual(tidy(b), o) || !reflect.DeepEqual(tidy(c), o) {
			t.Errorf("two answers share memory: %#v, %#v", b, c)
		}
	}
	want := api.Reply{Found: someFound(3), Parts: someParts(3)}
	s := plainReply(want)
	a, _ := Parse(s)
	b, _ := Parse(s)
	for i := range a.Found[:cap(a.Found)] {
		a.Found[:cap(a.Found)][i].Offset = 99
	}
	for i := range a.Parts[:cap(a.Parts)] {
		a.Parts[:cap(a.Parts)][i].Topic = "another"
	}
	c, _ := Parse(s)
	if !reflect.DeepEqual(b, want) || !reflect.DeepEqual(c, want) {
		t.Errorf("two answers share memory: %#v, %#v", b, c)
	}
}

var (
	keptOps   [2]api.Op
	keptReply api.Reply
)

// heldBytes is how many bytes are still held, once what isn't is let go.
func heldBytes() int64 {
	runtime.GC()
	var m runtime.MemStats
	runtime.ReadMemStats(&m)
	return int64(m.HeapAlloc)
}

func TestTextsAreNewMemory(t *testing.T) {
	const size = 1 << 24
	before := heldBytes()
	within := func(s string) string {
		long := strings.Repeat("x", size) + s
		return long[size:]
	}
	keptOps[0], _ = Get(within(plainOp(full(api.OpJoin))))
	keptOps[1], _ = Get(within(plainOp(full(api.OpProduce))))
	keptReply, _ = Parse(within(plainReply(fullReply())))
	if keptOps[0].Group != "name-g" || len(keptOps[1].Batch.Records) != 2 || len(keptReply.Parts) != 2 {
		t.Fatalf("%#v, %#v", keptOps, keptReply)
	}
	if more := heldBytes() - before; more >= size {
		t.Errorf("the answers hold %d bytes: their texts lie within those that were handed in", more)
	}
}
