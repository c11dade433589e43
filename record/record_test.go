package record

import (
	"encoding/binary"
	"math"
	"reflect"
	"runtime"
	"slices"
	"strings"
	"testing"

	"stagecoach/api"
)

// plainText and plainRecord and plainBatch are bytes as the chapter's words say them.
func plainText(s string) string {
	return string(binary.AppendUvarint(nil, uint64(len(s)))) + s
}

func plainRecord(r api.Record) string {
	switch {
	case r.Tomb:
		return "\x03" + plainText(r.Key)
	case r.HasKey:
		return "\x01" + plainText(r.Key) + plainText(r.Value)
	}
	return "\x00" + plainText(r.Value)
}

func plainBatch(b api.Batch) string {
	l := binary.AppendUvarint(nil, uint64(b.Producer))
	l = binary.AppendUvarint(l, uint64(b.Epoch))
	l = binary.AppendUvarint(l, uint64(b.Seq))
	l = binary.AppendUvarint(l, uint64(len(b.Records)))
	for _, r := range b.Records {
		l = append(l, plainRecord(r)...)
	}
	return string(l)
}

// bytesOf is a text of so many bytes, none of them like its neighbours.
func bytesOf(n int) string {
	l := make([]byte, n)
	for i := range l {
		l[i] = byte(i*37 + n)
	}
	return string(l)
}

// rightRecords are records that may be, of each form, with texts at each edge.
func rightRecords() []api.Record {
	var l []api.Record
	keys := []string{"", "a", "\x00", "\xff", bytesOf(63), bytesOf(64)}
	values := []string{"", "b", "\x00", "\x80", bytesOf(65), bytesOf(127), bytesOf(128), bytesOf(511), bytesOf(512)}
	for _, v := range values {
		l = append(l, api.Record{Value: v})
	}
	for _, k := range keys {
		l = append(l, api.Record{HasKey: true, Key: k, Tomb: true})
		for _, v := range values {
			l = append(l, api.Record{HasKey: true, Key: k, Value: v})
		}
	}
	return l
}

// wrongRecord is a record that may not be, and why.
type wrongRecord struct {
	r api.Record
	e api.Errno
}

func wrongRecords() []wrongRecord {
	k65, v513 := bytesOf(65), bytesOf(513)
	return []wrongRecord{
		// A key without HasKey.
		{api.Record{Key: "a"}, api.ErrRecordForm},
		{api.Record{Key: "a", Value: "b"}, api.ErrRecordForm},
		{api.Record{Key: "\x00"}, api.ErrRecordForm},
		{api.Record{Key: bytesOf(64), Value: "b"}, api.ErrRecordForm},
		// A tomb without a key.
		{api.Record{Tomb: true}, api.ErrRecordForm},
		{api.Record{Key: "a", Tomb: true}, api.ErrRecordForm},
		{api.Record{Tomb: true, Value: "b"}, api.ErrRecordForm},
		// A tomb with a value.
		{api.Record{HasKey: true, Tomb: true, Value: "b"}, api.ErrRecordForm},
		{api.Record{HasKey: true, Key: "a", Tomb: true, Value: "\x00"}, api.ErrRecordForm},
		{api.Record{HasKey: true, Key: bytesOf(64), Tomb: true, Value: bytesOf(512)}, api.ErrRecordForm},
		// Too many bytes.
		{api.Record{HasKey: true, Key: k65}, api.ErrBig},
		{api.Record{HasKey: true, Key: k65, Tomb: true}, api.ErrBig},
		{api.Record{HasKey: true, Key: k65, Value: "b"}, api.ErrBig},
		{api.Record{HasKey: true, Key: bytesOf(20000)}, api.ErrBig},
		{api.Record{Value: v513}, api.ErrBig},
		{api.Record{Value: bytesOf(20000)}, api.ErrBig},
		{api.Record{HasKey: true, Value: v513}, api.ErrBig},
		{api.Record{HasKey: true, Key: bytesOf(64), Value: v513}, api.ErrBig},
		{api.Record{HasKey: true, Key: k65, Value: v513}, api.ErrBig},
		// Both: the form is first.
		{api.Record{Key: k65}, api.ErrRecordForm},
		{api.Record{Key: "a", Value: v513}, api.ErrRecordForm},
		{api.Record{Key: k65, Tomb: true, Value: v513}, api.ErrRecordForm},
		{api.Record{Tomb: true, Value: v513}, api.ErrRecordForm},
		{api.Record{HasKey: true, Key: k65, Tomb: true, Value: "b"}, api.ErrRecordForm},
		{api.Record{HasKey: true, Tomb: true, Value: v513}, api.ErrRecordForm},
	}
}

// some are so many records, each one another.
func some(n int) []api.Record {
	l := rightRecords()
	out := make([]api.Record, n)
	for i := range out {
		out[i] = l[i*7%len(l)]
	}
	return out
}

// rightBatches are batches that may be, with numbers at each edge and each count of records.
func rightBatches() []api.Batch {
	const top = 1 << 40
	l := []api.Batch{
		{Producer: 1, Epoch: 2, Seq: 3, Records: some(1)},
		{Producer: top, Epoch: 127, Seq: 128, Records: some(2)},
		{Producer: 300, Epoch: top, Seq: top - 1, Records: some(3)},
		{Producer: 0, Epoch: 1, Seq: top, Records: some(4)},
		{Producer: top, Epoch: top, Seq: top, Records: slices.Repeat([]api.Record{{HasKey: true, Key: bytesOf(64), Value: bytesOf(512)}}, 16)},
	}
	for n := 1; n <= 16; n++ {
		l = append(l, api.Batch{Producer: n, Epoch: n * n, Seq: n << n, Records: some(n)})
	}
	for _, r := range rightRecords() {
		l = append(l, api.Batch{Records: []api.Record{r}})
	}
	return l
}

// wrongBatch is a batch that may not be, and why.
type wrongBatch struct {
	b api.Batch
	e api.Errno
}

func wrongBatches() []wrongBatch {
	one := []api.Record{{Value: "v"}}
	form, big := api.Record{Key: "a"}, api.Record{Value: bytesOf(513)}
	l := []wrongBatch{
		{api.Batch{}, api.ErrRecordForm},
		{api.Batch{Producer: 1, Records: []api.Record{}}, api.ErrRecordForm},
		{api.Batch{Records: some(17)}, api.ErrBig},
		{api.Batch{Records: some(300)}, api.ErrBig},

		{api.Batch{Records: []api.Record{form}}, api.ErrRecordForm},
		{api.Batch{Records: []api.Record{big}}, api.ErrBig},
		{api.Batch{Records: append(some(15), form)}, api.ErrRecordForm},
		{api.Batch{Records: append(some(15), big)}, api.ErrBig},
		// The first record that has an error tells which.
		{api.Batch{Records: []api.Record{form, big}}, api.ErrRecordForm},
		{api.Batch{Records: []api.Record{big, form}}, api.ErrBig},
		{api.Batch{Records: append(some(3), big, one[0], form)}, api.ErrBig},

		// Several apply: numbers, no records, too many, a record.
		{api.Batch{Producer: -1}, api.ErrArg},
		{api.Batch{Epoch: 1<<40 + 1}, api.ErrArg},
		{api.Batch{Seq: -1, Records: some(17)}, api.ErrArg},
		{api.Batch{Seq: 1<<40 + 1, Records: []api.Record{form}}, api.ErrArg},
		{api.Batch{Producer: -1, Records: []api.Record{big}}, api.ErrArg},
		{api.Batch{Records: append([]api.Record{form}, some(16)...)}, api.ErrBig},
	}
	for _, n := range []int{-1, math.MinInt, 1<<40 + 1, 1 << 41, math.MaxInt} {
		l = append(l,
			wrongBatch{api.Batch{Producer: n, Records: one}, api.ErrArg},
			wrongBatch{api.Batch{Epoch: n, Records: one}, api.ErrArg},
			wrongBatch{api.Batch{Seq: n, Records: one}, api.ErrArg})
	}
	return l
}

// sameBatch tells whether two batches are alike, list for list.
func sameBatch(a, b api.Batch) bool {
	return a.Producer == b.Producer && a.Epoch == b.Epoch && a.Seq == b.Seq && slices.Equal(a.Records, b.Records)
}

// noBatch tells whether a batch is zero.
func noBatch(b api.Batch) bool {
	return sameBatch(b, api.Batch{})
}

// around are bytes that may stand ahead of others or behind them.
func around() []string {
	return []string{"", "\x00", "\x01", "\x03", "\x80", "\xff", "\x00\x00\x00\x01\x00\x00", strings.Repeat("\xff", 12)}
}

// P3.1

func TestCheck(t *testing.T) {
	for _, r := range rightRecords() {
		if e := Check(r); e != api.OK {
			t.Errorf("%#v: %d", r, e)
		}
	}
	for _, x := range wrongRecords() {
		if e := Check(x.r); e != x.e {
			t.Errorf("%#v: %d, want %d", x.r, e, x.e)
		}
	}
}

func TestLimits(t *testing.T) {
	for n := range 600 {
		key := api.Record{HasKey: true, Key: bytesOf(n)}
		tomb := api.Record{HasKey: true, Key: bytesOf(n), Tomb: true}
		value := api.Record{Value: bytesOf(n)}
		if (Check(key) == api.OK) != (n <= 64) || (Check(tomb) == api.OK) != (n <= 64) {
			t.Errorf("a key of %d: %d, of a tomb: %d", n, Check(key), Check(tomb))
		}
		if (Check(value) == api.OK) != (n <= 512) {
			t.Errorf("a value of %d: %d", n, Check(value))
		}
	}
}

func TestAll(t *testing.T) {
	for i, b := range rightBatches() {
		if e := All(b); e != api.OK {
			t.Errorf("%d: %d", i, e)
		}
	}
	for _, x := range wrongBatches() {
		if e := All(x.b); e != x.e {
			t.Errorf("%#v: %d, want %d", x.b, e, x.e)
		}
	}
}

func TestAllAtEachCount(t *testing.T) {
	for n := range 40 {
		want := api.OK
		if n == 0 {
			want = api.ErrRecordForm
		}
		if n > 16 {
			want = api.ErrBig
		}
		if e := All(api.Batch{Records: some(n)}); e != want {
			t.Errorf("%d records: %d, want %d", n, e, want)
		}
	}
}

func TestAllAtEachRecord(t *testing.T) {
	for n := 1; n <= 16; n++ {
		for i := range n {
			for _, x := range wrongRecords() {
				l := some(n)
				l[i] = x.r
				if e := All(api.Batch{Records: l}); e != x.e {
					t.Errorf("record %d of %d is %#v: %d, want %d", i, n, x.r, e, x.e)
				}
			}
		}
	}
}

func TestSize(t *testing.T) {
	for _, r := range rightRecords() {
		if n, want := Size(r), len(plainRecord(r)); n != want {
			t.Errorf("%#v: %d, want %d", r, n, want)
		}
	}
	for _, x := range wrongRecords() {
		if n := Size(x.r); n != 0 {
			t.Errorf("%#v may not be, and has %d bytes", x.r, n)
		}
	}
	for _, x := range []struct {
		r    api.Record
		size int
	}{
		{api.Record{}, 2},
		{api.Record{HasKey: true}, 3},
		{api.Record{HasKey: true, Tomb: true}, 2},
		{api.Record{HasKey: true, Key: "a", Value: "b"}, 5},
		{api.Record{HasKey: true, Key: "a", Tomb: true}, 3},
		{api.Record{Value: bytesOf(127)}, 129},
		{api.Record{Value: bytesOf(128)}, 131},
		{api.Record{HasKey: true, Key: bytesOf(64), Value: bytesOf(512)}, 580},
	} {
		if n := Size(x.r); n != x.size {
			t.Errorf("%#v: %d, want %d", x.r, n, x.size)
		}
	}
}

// P3.2

func TestPutExamples(t *testing.T) {
	for _, x := range []struct {
		r    api.Record
		want string
	}{
		{api.Record{HasKey: true, Key: "a", Value: "b"}, "\x01\x01a\x01b"},
		{api.Record{HasKey: true, Key: "a", Tomb: true}, "\x03\x01a"},
		{api.Record{}, "\x00\x00"},
		{api.Record{Value: "b"}, "\x00\x01b"},
		{api.Record{HasKey: true}, "\x01\x00\x00"},
		{api.Record{HasKey: true, Value: "b"}, "\x01\x00\x01b"},
		{api.Record{HasKey: true, Key: "a"}, "\x01\x01a\x00"},
		{api.Record{HasKey: true, Tomb: true}, "\x03\x00"},
		{api.Record{Value: bytesOf(512)}, "\x00\x80\x04" + bytesOf(512)},
		{api.Record{HasKey: true, Key: bytesOf(64), Tomb: true}, "\x03\x40" + bytesOf(64)},
	} {
		if s, e := Put(x.r); s != x.want || e != api.OK {
			t.Errorf("%#v: %x, %d, want %x", x.r, s, e, x.want)
		}
		if r, to, e := Get(x.want, 0); r != x.r || to != len(x.want) || e != api.OK {
			t.Errorf("%x: %#v, %d, %d, want %#v", x.want, r, to, e, x.r)
		}
	}
}

func TestPutIsByTheWords(t *testing.T) {
	for _, r := range rightRecords() {
		if s, e := Put(r); s != plainRecord(r) || e != api.OK {
			t.Errorf("%#v: %x, %d", r, s, e)
		}
	}
}

func TestPutRefuses(t *testing.T) {
	for _, x := range wrongRecords() {
		if s, e := Put(x.r); s != "" || e != x.e {
			t.Errorf("%#v: %x, %d, want %d", x.r, s, e, x.e)
		}
	}
}

func TestGet(t *testing.T) {
	for _, x := range []struct {
		s  string
		at int
		r  api.Record
		to int
		e  api.Errno
	}{
		{"\x00\x00", 0, api.Record{}, 2, api.OK},
		{"zz\x01\x01a\x01bz", 2, api.Record{HasKey: true, Key: "a", Value: "b"}, 7, api.OK},
		{"\x03\x01a\x01b", 0, api.Record{HasKey: true, Key: "a", Tomb: true}, 3, api.OK},
		{"\x03\x01\x00\x01b", 2, api.Record{Value: "b"}, 5, api.OK},

		// A place below 0, at the end, behind it.
		{"\x00\x00", -1, api.Record{}, 0, api.ErrArg},
		{"\x00\x00", math.MinInt, api.Record{}, 0, api.ErrArg},
		{"\x00\x00", 2, api.Record{}, 0, api.ErrVarintShort},
		{"\x00\x00", 3, api.Record{}, 0, api.ErrArg},
		{"\x00\x00", math.MaxInt, api.Record{}, 0, api.ErrArg},
		{"", 0, api.Record{}, 0, api.ErrVarintShort},
		{"", 1, api.Record{}, 0, api.ErrArg},
		{"", -1, api.Record{}, 0, api.ErrArg},

		// A first byte that is none, whatever stands behind.
		{"\x02", 0, api.Record{}, 0, api.ErrRecordForm},
		{"\x02\x01a", 0, api.Record{}, 0, api.ErrRecordForm},
		{"\x04\x01a", 0, api.Record{}, 0, api.ErrRecordForm},
		{"\x81\x00\x00", 0, api.Record{}, 0, api.ErrRecordForm},
		{"\x02\x80\x00", 0, api.Record{}, 0, api.ErrRecordForm},

		// Bytes that end within a key, a value, a number.
		{"\x00", 0, api.Record{}, 0, api.ErrVarintShort},
		{"\x01", 0, api.Record{}, 0, api.ErrVarintShort},
		{"\x03", 0, api.Record{}, 0, api.ErrVarintShort},
		{"\x00\x80", 0, api.Record{}, 0, api.ErrVarintShort},
		{"\x00\x01", 0, api.Record{}, 0, api.ErrVarintShort},
		{"\x00\x03ab", 0, api.Record{}, 0, api.ErrVarintShort},
		{"\x01\x02a", 0, api.Record{}, 0, api.ErrVarintShort},
		{"\x01\x01a", 0, api.Record{}, 0, api.ErrVarintShort},
		{"\x01\x01a\x02b", 0, api.Record{}, 0, api.ErrVarintShort},
		{"\x03\x02a", 0, api.Record{}, 0, api.ErrVarintShort},

		// Numbers that are too long.
		{"\x00\x80\x00", 0, api.Record{}, 0, api.ErrVarintLong},
		{"\x01\x81\x00a\x01b", 0, api.Record{}, 0, api.ErrVarintLong},
		{"\x01\x01a\x81\x00b", 0, api.Record{}, 0, api.ErrVarintLong},
		{"\x03\x81\x00a", 0, api.Record{}, 0, api.ErrVarintLong},
		{"\x00" + strings.Repeat("\xff", 10), 0, api.Record{}, 0, api.ErrVarintLong},

		// Too many bytes of a key, of a value, even if they aren't there.
		{"\x01\x41" + bytesOf(65) + "\x00", 0, api.Record{}, 0, api.ErrBig},
		{"\x03\x41" + bytesOf(65), 0, api.Record{}, 0, api.ErrBig},
		{"\x00\x81\x04" + bytesOf(513), 0, api.Record{}, 0, api.ErrBig},
		{"\x01\x00\x81\x04" + bytesOf(513), 0, api.Record{}, 0, api.ErrBig},
		{"\x01\x41", 0, api.Record{}, 0, api.ErrBig},
		{"\x00\x81\x04", 0, api.Record{}, 0, api.ErrBig},
		{"\x00" + strings.Repeat("\xff", 9) + "\x01", 0, api.Record{}, 0, api.ErrBig},

		// The key's error is ahead of the value's.
		{"\x01\x41" + bytesOf(65) + "\x80\x00", 0, api.Record{}, 0, api.ErrBig},
		{"\x01\x80\x00\x81\x04", 0, api.Record{}, 0, api.ErrVarintLong},
	} {
		if r, to, e := Get(x.s, x.at); r != x.r || to != x.to || e != x.e {
			t.Errorf("Get(%x, %d): %#v, %d, %d, want %#v, %d, %d", x.s, x.at, r, to, e, x.r, x.to, x.e)
		}
	}
}

func TestGetOfEachFirstByte(t *testing.T) {
	for n := range 256 {
		r, to, e := Get(string([]byte{byte(n)})+"\x01a\x01b", 0)
		var want api.Record
		wantTo, wantE := 0, api.ErrRecordForm
		switch n {
		case 0:
			want, wantTo, wantE = api.Record{Value: "a"}, 3, api.OK
		case 1:
			want, wantTo, wantE = api.Record{HasKey: true, Key: "a", Value: "b"}, 5, api.OK
		case 3:
			want, wantTo, wantE = api.Record{HasKey: true, Key: "a", Tomb: true}, 3, api.OK
		}
		if r != want || to != wantTo || e != wantE {
			t.Errorf("%d: %#v, %d, %d, want %#v, %d, %d", n, r, to, e, want, wantTo, wantE)
		}
	}
}

func TestGetWhereverBytesEnd(t *testing.T) {
	for _, r := range rightRecords() {
		s := plainRecord(r)
		for n := range len(s) {
			if got, to, e := Get(s[:n], 0); got != (api.Record{}) || to != 0 || e != api.ErrVarintShort {
				t.Fatalf("%x: %#v, %d, %d", s[:n], got, to, e)
			}
		}
	}
}

// P3.3

func TestBatchExamples(t *testing.T) {
	a := api.Record{HasKey: true, Key: "a", Value: "b"}
	tomb := api.Record{HasKey: true, Key: "a", Tomb: true}
	for _, x := range []struct {
		b    api.Batch
		want string
	}{
		{api.Batch{Producer: 1, Epoch: 2, Seq: 3, Records: []api.Record{a, tomb}}, "\x01\x02\x03\x02\x01\x01a\x01b\x03\x01a"},
		{api.Batch{Records: []api.Record{tomb, a}}, "\x00\x00\x00\x02\x03\x01a\x01\x01a\x01b"},
		{api.Batch{Producer: 300, Epoch: 128, Seq: 1 << 40, Records: []api.Record{{}}}, "\xac\x02\x80\x01\x80\x80\x80\x80\x80\x20\x01\x00\x00"},
		{api.Batch{Records: make([]api.Record, 16)}, "\x00\x00\x00\x10" + strings.Repeat("\x00\x00", 16)},
	} {
		if s, e := Batch(x.b); s != x.want || e != api.OK {
			t.Errorf("%#v: %x, %d, want %x", x.b, s, e, x.want)
		}
		if b, to, e := Parse(x.want, 0); !sameBatch(b, x.b) || to != len(x.want) || e != api.OK {
			t.Errorf("%x: %#v, %d, %d, want %#v", x.want, b, to, e, x.b)
		}
	}
}

func TestBatchIsByTheWords(t *testing.T) {
	for i, b := range rightBatches() {
		if s, e := Batch(b); s != plainBatch(b) || e != api.OK {
			t.Errorf("%d: %x, %d", i, s, e)
		}
	}
}

func TestBatchRefuses(t *testing.T) {
	for _, x := range wrongBatches() {
		if s, e := Batch(x.b); s != "" || e != x.e {
			t.Errorf("%#v: %x, %d, want %d", x.b, s, e, x.e)
		}
	}
}

func TestParseRefuses(t *testing.T) {
	const (
		top  = "\x80\x80\x80\x80\x80\x20" // 2^40
		over = "\x81\x80\x80\x80\x80\x20" // 2^40 + 1
		long = "\x80\x00"
		all  = "\xff\xff\xff\xff\xff\xff\xff\xff\xff\x01" // 2^64 - 1
		one  = "\x01\x00\x00"                             // one record
	)
	for _, x := range []struct {
		s  string
		at int
		e  api.Errno
	}{
		// A place below 0, at the end, behind it.
		{"\x00\x00\x00" + one, -1, api.ErrArg},
		{"\x00\x00\x00" + one, math.MinInt, api.ErrArg},
		{"\x00\x00\x00" + one, 6, api.ErrVarintShort},
		{"\x00\x00\x00" + one, 7, api.ErrArg},
		{"\x00\x00\x00" + one, math.MaxInt, api.ErrArg},
		{"", 0, api.ErrVarintShort},
		{"", 1, api.ErrArg},

		// Numbers that end, that are too long, that are too great.
		{"\x00", 0, api.ErrVarintShort},
		{"\x00\x00", 0, api.ErrVarintShort},
		{"\x00\x00\x00", 0, api.ErrVarintShort},
		{"\x00\x00\x00\x80", 0, api.ErrVarintShort},
		{long + "\x00\x00" + one, 0, api.ErrVarintLong},
		{"\x00" + long + "\x00" + one, 0, api.ErrVarintLong},
		{"\x00\x00" + long + one, 0, api.ErrVarintLong},
		{"\x00\x00\x00" + long + one, 0, api.ErrVarintLong},
		{over + "\x00\x00" + one, 0, api.ErrArg},
		{"\x00" + over + "\x00" + one, 0, api.ErrArg},
		{"\x00\x00" + over + one, 0, api.ErrArg},
		{all + "\x00\x00" + one, 0, api.ErrArg},
		{"\x00" + all + "\x00" + one, 0, api.ErrArg},
		{"\x00\x00" + all + one, 0, api.ErrArg},

		// What is too great is told behind the errors of all four.
		{over + "\x00\x00", 0, api.ErrVarintShort},
		{over + long, 0, api.ErrVarintLong},
		{over + over + over + long, 0, api.ErrVarintLong},
		{"\x00\x00" + over + "\x80", 0, api.ErrVarintShort},

		// No records, too many.
		{"\x00\x00\x00\x00", 0, api.ErrRecordForm},
		{"\x00\x00\x00\x00\x00\x00", 0, api.ErrRecordForm},
		{"\x00\x00\x00\x11" + strings.Repeat("\x00\x00", 17), 0, api.ErrBig},
		{"\x00\x00\x00\x11", 0, api.ErrBig},
		{top + top + top + over, 0, api.ErrBig},
		{"\x00\x00\x00" + all, 0, api.ErrBig},

		// Too great a number is ahead of these, these ahead of a record's error.
		{over + "\x00\x00\x00", 0, api.ErrArg},
		{"\x00\x00" + over + "\x11", 0, api.ErrArg},
		{"\x00" + over + "\x00\x01\x02", 0, api.ErrArg},
		{"\x00\x00\x00\x00\x02", 0, api.ErrRecordForm},
		{"\x00\x00\x00\x11\x02", 0, api.ErrBig},

		// A record's error, of the first one that has one.
		{"\x00\x00\x00\x01", 0, api.ErrVarintShort},
		{"\x00\x00\x00\x01\x02", 0, api.ErrRecordForm},
		{"\x00\x00\x00\x01\x04\x01a", 0, api.ErrRecordForm},
		{"\x00\x00\x00\x01\x00\x80\x00", 0, api.ErrVarintLong},
		{"\x00\x00\x00\x01\x01\x41", 0, api.ErrBig},
		{"\x00\x00\x00\x01\x00\x81\x04", 0, api.ErrBig},
		{"\x00\x00\x00\x02\x00\x00", 0, api.ErrVarintShort},
		{"\x00\x00\x00\x02\x00\x00\x02", 0, api.ErrRecordForm},
		{"\x00\x00\x00\x03\x00\x00\x01\x41\x02", 0, api.ErrBig},
		{"\x00\x00\x00\x10" + strings.Repeat("\x00\x00", 15), 0, api.ErrVarintShort},
		{"\x00\x00\x00\x10" + strings.Repeat("\x00\x00", 15) + "\x02", 0, api.ErrRecordForm},
	} {
		if b, to, e := Parse(x.s, x.at); !noBatch(b) || to != 0 || e != x.e {
			t.Errorf("Parse(%x, %d): %#v, %d, %d, want %d", x.s, x.at, b, to, e, x.e)
		}
	}
}

func TestParseAtTheGreatestNumbers(t *testing.T) {
	top := "\x80\x80\x80\x80\x80\x20"
	b, to, e := Parse(top+top+top+"\x01\x00\x00", 0)
	if want := (api.Batch{Producer: 1 << 40, Epoch: 1 << 40, Seq: 1 << 40, Records: make([]api.Record, 1)}); !sameBatch(b, want) || to != 21 || e != api.OK {
		t.Errorf("%#v, %d, %d", b, to, e)
	}
}

func TestParseWhereverBytesEnd(t *testing.T) {
	for i, b := range rightBatches() {
		s := plainBatch(b)
		for n := range len(s) {
			if got, to, e := Parse(s[:n], 0); !noBatch(got) || to != 0 || e != api.ErrVarintShort {
				t.Fatalf("batch %d, %d bytes of %d: %#v, %d, %d", i, n, len(s), got, to, e)
			}
		}
	}
}

// P3.4

func TestRecordsAreGotAsPutWhateverStandsAround(t *testing.T) {
	for _, r := range rightRecords() {
		s, _ := Put(r)
		for _, ahead := range around() {
			for _, behind := range around() {
				got, to, e := Get(ahead+s+behind, len(ahead))
				if got != r || to != len(ahead)+len(s) || e != api.OK {
					t.Fatalf("%x %x %x: %#v, %d, %d, want %#v", ahead, s, behind, got, to, e, r)
				}
			}
		}
	}
}

func TestBatchesAreGotAsPutWhateverStandsAround(t *testing.T) {
	for i, b := range rightBatches() {
		s, _ := Batch(b)
		for _, ahead := range around() {
			for _, behind := range around() {
				got, to, e := Parse(ahead+s+behind, len(ahead))
				if !sameBatch(got, b) || to != len(ahead)+len(s) || e != api.OK {
					t.Fatalf("batch %d, %x ahead, %x behind: %#v, %d, %d", i, ahead, behind, got, to, e)
				}
			}
		}
	}
}

func TestNoOtherBytesAreARecords(t *testing.T) {
	letters := "\x00\x01\x02\x03\x04a\x40\x41\x80\x81\xff"
	var check func(s string, deep int)
	check = func(s string, deep int) {
		r, to, e := Get(s, 0)
		if e != api.OK && (r != (api.Record{}) || to != 0) {
			t.Fatalf("%x: beside error %d: %#v, %d", s, e, r, to)
		}
		if e == api.OK {
			if back, e := Put(r); e != api.OK || back != s[:to] {
				t.Fatalf("%x was got as %#v, which is put as %x, %d", s[:to], r, back, e)
			}
		}
		if deep == 0 {
			return
		}
		for i := range len(letters) {
			check(s+letters[i:i+1], deep-1)
		}
	}
	check("", 5)
}

func TestNoOtherBytesAreABatchs(t *testing.T) {
	for i, b := range rightBatches() {
		s := plainBatch(b)
		if len(s) > 2000 {
			continue
		}
		for at := range min(len(s), 200) {
			for _, c := range []byte{0, 1, 2, 3, 4, 17, 64, 65, 127, 128, 129, 255} {
				other := s[:at] + string([]byte{c}) + s[at+1:]
				got, to, e := Parse(other, 0)
				if e != api.OK && (!noBatch(got) || to != 0) {
					t.Fatalf("batch %d, byte %d as %d: beside error %d: %#v, %d", i, at, c, e, got, to)
				}
				if e != api.OK {
					continue
				}
				if back, e := Batch(got); e != api.OK || back != other[:to] {
					t.Fatalf("batch %d, byte %d as %d: got, and put as %x, %d", i, at, c, back, e)
				}
			}
		}
	}
}

// R4

func TestWhatIsHandedInStays(t *testing.T) {
	for _, n := range []int{1, 5, 15, 16, 17} {
		behind := api.Record{HasKey: true, Key: "behind"}
		room := append(some(n), behind, behind)
		b := api.Batch{Producer: 1, Epoch: 2, Seq: 3, Records: room[:n]}
		All(b)
		Batch(b)
		if want := append(some(n), behind, behind); !reflect.DeepEqual(room, want) {
			t.Errorf("%d records are %#v afterwards", n, room)
		}
	}
}

func TestWhatIsToldIsItsOwners(t *testing.T) {
	s := plainBatch(api.Batch{Records: some(5)})
	a, _, _ := Parse(s, 0)
	b, _, _ := Parse(s, 0)
	// All the room is written to, the spare one too.
	for i := range a.Records[:cap(a.Records)] {
		a.Records[:cap(a.Records)][i] = api.Record{Value: "another"}
	}
	if !slices.Equal(b.Records, some(5)) {
		t.Errorf("two answers share their records: %#v", b.Records)
	}
	if c, _, e := Parse(s, 0); e != api.OK || !slices.Equal(c.Records, some(5)) {
		t.Errorf("an answer's records are kept: %#v, %d", c.Records, e)
	}
}

var (
	keptRecord api.Record
	keptBatch  api.Batch
)

// heldBytes is how many bytes are still held, once what isn't is let go.
func heldBytes() int64 {
	runtime.GC()
	var m runtime.MemStats
	runtime.ReadMemStats(&m)
	return int64(m.HeapAlloc)
}

func TestTextsAreNewMemory(t *testing.T) {
	const size = 1 << 24
	before := heldBytes()
	keptRecord, _, _ = Get(strings.Repeat("x", size)+"\x01\x03key\x05value", size)
	keptBatch, _, _ = Parse(strings.Repeat("x", size)+"\x00\x00\x00\x02\x00\x05value\x03\x03key", size)
	if keptRecord.Key != "key" || keptRecord.Value != "value" || len(keptBatch.Records) != 2 {
		t.Fatalf("%#v, %#v", keptRecord, keptBatch)
	}
	if more := heldBytes() - before; more >= size {
		t.Errorf("the answers hold %d bytes: their texts lie within those that were handed in", more)
	}
}
