package dedup

import (
	"math"
	"runtime"
	"slices"
	"strconv"
	"strings"
	"testing"

	"stagecoach/api"
)

const most = 1 << 40

// did is a batch that was appended: whose, in which epoch, to which partition.
type did struct {
	id, epoch int
	part      api.Part
	d         api.Did
}

// plain is a table as the chapter's words say it: all batches that were ever done, and each answer made by going over all of them.
type plain struct {
	epochs []int
	all    []did
}

// plainLoad is of what may be.
func plainLoad(epochs []int, l []api.Maker) *plain {
	p := &plain{epochs: slices.Clone(epochs)}
	for _, m := range l {
		for _, d := range m.Last {
			p.all = append(p.all, did{m.Id, m.Epoch, m.Part, d})
		}
	}
	return p
}

func (p *plain) copy() *plain {
	return &plain{slices.Clone(p.epochs), slices.Clone(p.all)}
}

func (p *plain) open(id int) (int, int, api.Errno) {
	switch {
	case id == 0 && len(p.epochs) == 32:
		return 0, 0, 2
	case id == 0:
		p.epochs = append(p.epochs, 0)
		return len(p.epochs), 0, 0
	case id < 0 || id > len(p.epochs):
		return 0, 0, 80
	case p.epochs[id-1] == most:
		return 0, 0, 2
	}
	p.epochs[id-1]++
	return id, p.epochs[id-1], 0
}

// last are the batches that are remembered of a producer that is there.
func (p *plain) last(id int, part api.Part) []api.Did {
	var l []api.Did
	for _, x := range p.all {
		if x.id == id && x.epoch == p.epochs[id-1] && x.part == part {
			l = append(l, x.d)
		}
	}
	if len(l) > 5 {
		l = l[len(l)-5:]
	}
	return l
}

func (p *plain) ask(part api.Part, b api.Batch) (int, bool, api.Errno) {
	switch id := b.Producer; {
	case id == 0:
		return 0, false, 0
	case id < 0 || id > len(p.epochs):
		return 0, false, 80
	case p.epochs[id-1] > b.Epoch:
		return 0, false, 81
	case p.epochs[id-1] < b.Epoch:
		return 0, false, 80
	}
	next := 0
	for _, d := range p.last(b.Producer, part) {
		next = d.Seq + d.N
	}
	if b.Seq == next {
		return 0, false, 0
	}
	for _, d := range p.last(b.Producer, part) {
		if b.Seq == d.Seq && len(b.Records) == d.N {
			return d.Offset, true, 0
		}
	}
	return 0, false, 82
}

func (p *plain) done(part api.Part, b api.Batch, offset int) api.Errno {
	_, had, e := p.ask(part, b)
	switch {
	case e != 0:
		return e
	case had:
		return 82
	case len(b.Records) == 0 || offset < 0 || offset > most:
		return 1
	case b.Producer != 0:
		p.all = append(p.all, did{b.Producer, b.Epoch, part, api.Did{Seq: b.Seq, N: len(b.Records), Offset: offset}})
	}
	return 0
}

// parts are those of which there ever was something, by rising Topic and N.
func (p *plain) parts() []api.Part {
	var l []api.Part
	for _, x := range p.all {
		at := 0
		for at < len(l) && (l[at].Topic < x.part.Topic || l[at].Topic == x.part.Topic && l[at].N < x.part.N) {
			at++
		}
		if at == len(l) || l[at] != x.part {
			l = slices.Insert(l, at, x.part)
		}
	}
	return l
}

func (p *plain) makers() []api.Maker {
	var l []api.Maker
	parts := p.parts()
	for i, epoch := range p.epochs {
		for _, part := range parts {
			if last := p.last(i+1, part); last != nil {
				l = append(l, api.Maker{Id: i + 1, Epoch: epoch, Part: part, Last: last})
			}
		}
	}
	return l
}

func sameMaker(a, b api.Maker) bool {
	return a.Id == b.Id && a.Epoch == b.Epoch && a.Part == b.Part && slices.Equal(a.Last, b.Last)
}

func sameMakers(a, b []api.Maker) bool {
	return slices.EqualFunc(a, b, sameMaker)
}

// tells tells where a table and its plain one differ, in what they tell without being asked for a batch.
func tells(t *testing.T, k *Table, p *plain) {
	t.Helper()
	if got := k.Epochs(); !slices.Equal(got, p.epochs) {
		t.Fatalf("epochs %v, want %v", got, p.epochs)
	}
	if got, want := k.Makers(), p.makers(); !sameMakers(got, want) {
		t.Fatalf("makers %v, want %v", got, want)
	}
}

// asked are batches of a producer, near to what is remembered of it.
func (p *plain) asked(id int, part api.Part) []api.Batch {
	l := []api.Batch{batch(id, 0, 0, 1), batch(id, -1, 0, 1)}
	if id < 1 || id > len(p.epochs) {
		return l
	}
	epoch := p.epochs[id-1]
	seqs, counts := []int{math.MinInt, -1, 0, 1, 2, most, most + 1, math.MaxInt}, []int{0, 1, 2, 16}
	for _, d := range p.last(id, part) {
		seqs = append(seqs, d.Seq-1, d.Seq, d.Seq+1, d.Seq+d.N-1, d.Seq+d.N, d.Seq+d.N+1)
		if d.N <= 64 {
			counts = append(counts, d.N-1, d.N, d.N+1)
		}
	}
	for _, seq := range seqs {
		for _, n := range counts {
			l = append(l, batch(id, epoch, seq, n))
		}
		for _, other := range []int{math.MinInt, -1, epoch - 1, epoch + 1, math.MaxInt} {
			l = append(l, batch(id, other, seq, 1))
		}
	}
	return l
}

// match tells where a table and its plain one differ.
func match(t *testing.T, k *Table, p *plain) {
	t.Helper()
	tells(t, k, p)
	ids := append(row(-1, len(p.epochs)+3), math.MinInt, math.MaxInt)
	for _, part := range append(p.parts(), at("no such", 0), at("", 0)) {
		for _, id := range ids {
			for _, b := range p.asked(id, part) {
				got, had, e := k.Ask(part, b)
				if want, wantHad, wantE := p.ask(part, b); got != want || had != wantHad || e != wantE {
					t.Fatalf("Ask(%v, %s): %d, %v, %d, want %d, %v, %d", part, text(b), got, had, e, want, wantHad, wantE)
				}
			}
		}
	}
	// Asking has changed nothing.
	tells(t, k, p)
}

func at(topic string, n int) api.Part {
	return api.Part{Topic: topic, N: n}
}

// batch is one of n records.
func batch(id, epoch, seq, n int) api.Batch {
	return api.Batch{Producer: id, Epoch: epoch, Seq: seq, Records: make([]api.Record, n)}
}

func text(b api.Batch) string {
	return "producer " + strconv.Itoa(b.Producer) + ", epoch " + strconv.Itoa(b.Epoch) + ", number " + strconv.Itoa(b.Seq) + ", records " + strconv.Itoa(len(b.Records))
}

// row are n numbers, from one on, each one behind the one ahead of it.
func row(from, n int) []int {
	var l []int
	for i := range n {
		l = append(l, from+i)
	}
	return l
}

// maker is what is remembered of a producer and a partition.
func maker(id, epoch int, part api.Part, l ...api.Did) api.Maker {
	return api.Maker{Id: id, Epoch: epoch, Part: part, Last: l}
}

// run are batches of one record each, one behind the other, from a number on.
func run(from, n int) []api.Did {
	var l []api.Did
	for i := range n {
		l = append(l, api.Did{Seq: from + i, N: 1, Offset: 100 + from + i})
	}
	return l
}

// makers are n producers, of epoch 0.
func makers(t *testing.T, n int) (*Table, *plain) {
	t.Helper()
	k, p := New(), &plain{}
	for i := range n {
		p.open(0)
		if id, epoch, e := k.Open(0); id != i+1 || epoch != 0 || e != api.OK {
			t.Fatalf("Open(0): %d, %d, %d, want %d", id, epoch, e, i+1)
		}
	}
	return k, p
}

// mustDo does batches, one behind the other, that may be.
func mustDo(t *testing.T, k *Table, p *plain, part api.Part, id int, counts ...int) {
	t.Helper()
	for _, n := range counts {
		seq := 0
		for _, d := range p.last(id, part) {
			seq = d.Seq + d.N
		}
		b, offset := batch(id, p.epochs[id-1], seq, n), 1000*id+len(p.all)
		if e, want := k.Done(part, b, offset), p.done(part, b, offset); e != api.OK || want != api.OK {
			t.Fatalf("Done(%v, %s): %d, %d", part, text(b), e, want)
		}
	}
}

func mustLoad(t *testing.T, epochs []int, l ...api.Maker) (*Table, *plain) {
	t.Helper()
	k, e := Load(epochs, l)
	if e != api.OK || k == nil {
		t.Fatalf("Load(%v, %v): %v, %d", epochs, l, k, e)
	}
	return k, plainLoad(epochs, l)
}

// crowd is a table of three producers, that send to some partitions.
func crowd(t *testing.T) (*Table, *plain) {
	t.Helper()
	k, p := makers(t, 3)
	k.Open(2)
	p.open(2)
	for i, part := range []api.Part{at("t", 1), at("t", 0), at("s", 7), at("tt", 0)} {
		for id := 1; id <= 3; id++ {
			mustDo(t, k, p, part, id, row(1, 2+i)...)
		}
	}
	return k, p
}

// chance is a row of numbers, always the same one, that look like chance.
type chance uint64

func (c *chance) below(n int) int {
	*c = *c*6364136223846793005 + 1442695040888963407
	return int(uint64(*c>>33) % uint64(n))
}

// The chapter's examples.

func TestExamples(t *testing.T) {
	k := New()
	if id, epoch, e := k.Open(0); id != 1 || epoch != 0 || e != api.OK {
		t.Errorf("Open(0): %d, %d, %d", id, epoch, e)
	}
	part, two := at("t", 0), batch(1, 0, 0, 2)
	if offset, had, e := k.Ask(part, two); offset != 0 || had || e != api.OK {
		t.Errorf("Ask of numbers 0, 1: %d, %v, %d", offset, had, e)
	}
	if e := k.Done(part, two, 7); e != api.OK {
		t.Errorf("Done at 7: %d", e)
	}
	if offset, had, e := k.Ask(part, two); offset != 7 || !had || e != api.OK {
		t.Errorf("Ask again: %d, %v, %d", offset, had, e)
	}
	if offset, had, e := k.Ask(part, batch(1, 0, 3, 1)); offset != 0 || had || e != api.ErrDedupOrder {
		t.Errorf("Ask of number 3: %d, %v, %d", offset, had, e)
	}
}

func TestNumbersOfApi(t *testing.T) {
	if api.ErrArg != 1 || api.ErrBig != 2 || api.ErrDedupNone != 80 || api.ErrDedupFence != 81 || api.ErrDedupOrder != 82 || api.MaxMakers != 32 || api.Window != 5 || api.MaxOffset != most {
		t.Error("errors and limits are not the chapter's")
	}
}

// P8.1

func TestNew(t *testing.T) {
	match(t, New(), &plain{})
	// One does not hear of another one.
	k, l := New(), New()
	k.Open(0)
	match(t, l, &plain{})
	match(t, k, &plain{epochs: []int{0}})
}

func TestOpenOfNewOnes(t *testing.T) {
	k, p := makers(t, 32)
	mustDo(t, k, p, at("t", 0), 32, 1, 2)
	for range 2 {
		if id, epoch, e := k.Open(0); id != 0 || epoch != 0 || e != api.ErrBig {
			t.Errorf("one too many: %d, %d, %d", id, epoch, e)
		}
		match(t, k, p)
	}
	// A further epoch of those that are there is still to be had.
	if id, epoch, e := k.Open(32); id != 32 || epoch != 1 || e != api.OK {
		t.Errorf("Open(32): %d, %d, %d", id, epoch, e)
	}
	p.open(32)
	match(t, k, p)
}

func TestOpenOfNoProducer(t *testing.T) {
	for _, n := range []int{0, 1, 3, 32} {
		k, p := makers(t, n)
		for _, id := range []int{math.MinInt, -n - 1, -n, -1, n + 1, n + 2, 33, most, math.MaxInt} {
			if id == 0 {
				continue
			}
			if got, epoch, e := k.Open(id); got != 0 || epoch != 0 || e != api.ErrDedupNone {
				t.Errorf("of %d Open(%d): %d, %d, %d", n, id, got, epoch, e)
			}
		}
		match(t, k, p)
	}
}

func TestOpenOfFurtherEpochs(t *testing.T) {
	k, p := makers(t, 3)
	for i, id := range []int{2, 2, 1, 2, 3, 3, 1, 2} {
		wantId, want, _ := p.open(id)
		if got, epoch, e := k.Open(id); got != wantId || epoch != want || e != api.OK {
			t.Errorf("%d: Open(%d): %d, %d, %d, want epoch %d", i, id, got, epoch, e, want)
		}
		match(t, k, p)
	}
	if got := k.Epochs(); !slices.Equal(got, []int{2, 4, 2}) {
		t.Errorf("epochs %v", got)
	}
}

func TestOpenUpToTheGreatestEpoch(t *testing.T) {
	k, p := mustLoad(t, []int{0, most - 1, most}, maker(2, most-1, at("t", 0), run(0, 2)...), maker(3, most, at("t", 0), run(0, 2)...))
	if id, epoch, e := k.Open(2); id != 2 || epoch != most || e != api.OK {
		t.Errorf("Open(2): %d, %d, %d", id, epoch, e)
	}
	p.open(2)
	match(t, k, p)
	for _, id := range []int{2, 3} {
		if got, epoch, e := k.Open(id); got != 0 || epoch != 0 || e != api.ErrBig {
			t.Errorf("Open(%d): %d, %d, %d", id, got, epoch, e)
		}
		match(t, k, p)
	}
	// What was remembered is still there, as nothing was changed.
	if offset, had, e := k.Ask(at("t", 0), batch(3, most, 1, 1)); offset != 101 || !had || e != api.OK {
		t.Errorf("Ask: %d, %v, %d", offset, had, e)
	}
}

func TestAFurtherEpochForgets(t *testing.T) {
	for id := 1; id <= 3; id++ {
		k, p := crowd(t)
		was := k.Makers()
		k.Open(id)
		p.open(id)
		match(t, k, p)
		others := slices.DeleteFunc(was, func(m api.Maker) bool { return m.Id == id })
		if got := k.Makers(); !sameMakers(got, others) || len(got) != 8 {
			t.Errorf("%d: %v, want %v", id, got, others)
		}
		// It begins at 0 again, in each partition.
		epoch := p.epochs[id-1]
		for _, part := range p.parts() {
			if offset, had, e := k.Ask(part, batch(id, epoch, 0, 1)); offset != 0 || had || e != api.OK {
				t.Errorf("%d: Ask of number 0: %d, %v, %d", id, offset, had, e)
			}
			if _, _, e := k.Ask(part, batch(id, epoch, 1, 2)); e != api.ErrDedupOrder {
				t.Errorf("%d: Ask of number 1: %d", id, e)
			}
			if _, _, e := k.Ask(part, batch(id, epoch-1, 0, 1)); e != api.ErrDedupFence {
				t.Errorf("%d: Ask of the epoch ahead of it: %d", id, e)
			}
			mustDo(t, k, p, part, id, 3, 1)
		}
		match(t, k, p)
	}
}

// P8.2

func TestAsk(t *testing.T) {
	k, p := mustLoad(t, []int{0, 3, 0}, maker(1, 0, at("t", 0), run(0, 5)...), maker(2, 3, at("t", 0), api.Did{Seq: 4, N: 2, Offset: 0}, api.Did{Seq: 6, N: 1, Offset: most}, api.Did{Seq: 7, N: 16, Offset: 9}))
	mustDo(t, k, p, at("t", 0), 1, 1)
	for i, x := range []struct {
		part   api.Part
		b      api.Batch
		offset int
		had    bool
		e      api.Errno
	}{
		// Nobody's.
		{at("t", 0), batch(0, 0, 0, 1), 0, false, api.OK},
		{at("t", 0), batch(0, 9, 7, 0), 0, false, api.OK},
		{at("t", 0), batch(0, -1, -1, 1), 0, false, api.OK},
		// Of producers that are not there.
		{at("t", 0), batch(4, 0, 0, 1), 0, false, api.ErrDedupNone},
		{at("t", 0), batch(-1, 0, 0, 1), 0, false, api.ErrDedupNone},
		{at("t", 0), batch(math.MinInt, 0, 0, 1), 0, false, api.ErrDedupNone},
		{at("t", 0), batch(math.MaxInt, 0, 0, 1), 0, false, api.ErrDedupNone},
		// Of other epochs.
		{at("t", 0), batch(2, 2, 23, 1), 0, false, api.ErrDedupFence},
		{at("t", 0), batch(2, 0, 23, 1), 0, false, api.ErrDedupFence},
		{at("t", 0), batch(2, -1, 23, 1), 0, false, api.ErrDedupFence},
		{at("t", 0), batch(2, math.MinInt, 23, 1), 0, false, api.ErrDedupFence},
		{at("t", 0), batch(2, 4, 23, 1), 0, false, api.ErrDedupNone},
		{at("t", 0), batch(2, math.MaxInt, 23, 1), 0, false, api.ErrDedupNone},
		// The number that is due.
		{at("t", 0), batch(2, 3, 23, 1), 0, false, api.OK},
		{at("t", 0), batch(2, 3, 23, 16), 0, false, api.OK},
		{at("t", 0), batch(2, 3, 23, 0), 0, false, api.OK},
		{at("t", 0), batch(3, 0, 0, 1), 0, false, api.OK},
		{at("t", 1), batch(2, 3, 0, 1), 0, false, api.OK},
		{at("u", 0), batch(2, 3, 0, 1), 0, false, api.OK},
		// Those that are remembered.
		{at("t", 0), batch(2, 3, 4, 2), 0, true, api.OK},
		{at("t", 0), batch(2, 3, 6, 1), most, true, api.OK},
		{at("t", 0), batch(2, 3, 7, 16), 9, true, api.OK},
		{at("t", 0), batch(2, 3, 4, 1), 0, false, api.ErrDedupOrder},
		{at("t", 0), batch(2, 3, 4, 3), 0, false, api.ErrDedupOrder},
		{at("t", 0), batch(2, 3, 4, 0), 0, false, api.ErrDedupOrder},
		{at("t", 0), batch(2, 3, 6, 2), 0, false, api.ErrDedupOrder},
		{at("t", 0), batch(2, 3, 7, 15), 0, false, api.ErrDedupOrder},
		// Of five and the one ahead of them.
		{at("t", 0), batch(1, 0, 0, 1), 0, false, api.ErrDedupOrder},
		{at("t", 0), batch(1, 0, 1, 1), 101, true, api.OK},
		{at("t", 0), batch(1, 0, 2, 1), 102, true, api.OK},
		{at("t", 0), batch(1, 0, 3, 1), 103, true, api.OK},
		{at("t", 0), batch(1, 0, 4, 1), 104, true, api.OK},
		{at("t", 0), batch(1, 0, 5, 1), 1008, true, api.OK},
		{at("t", 0), batch(1, 0, 6, 1), 0, false, api.OK},
		{at("t", 0), batch(1, 0, 7, 1), 0, false, api.ErrDedupOrder},
		// Other numbers.
		{at("t", 0), batch(2, 3, 0, 1), 0, false, api.ErrDedupOrder},
		{at("t", 0), batch(2, 3, 3, 1), 0, false, api.ErrDedupOrder},
		{at("t", 0), batch(2, 3, 5, 1), 0, false, api.ErrDedupOrder},
		{at("t", 0), batch(2, 3, 22, 1), 0, false, api.ErrDedupOrder},
		{at("t", 0), batch(2, 3, 24, 1), 0, false, api.ErrDedupOrder},
		{at("t", 0), batch(2, 3, -1, 1), 0, false, api.ErrDedupOrder},
		{at("t", 0), batch(2, 3, math.MaxInt, 1), 0, false, api.ErrDedupOrder},
		{at("t", 0), batch(3, 0, 1, 1), 0, false, api.ErrDedupOrder},
		{at("t", 1), batch(2, 3, 23, 1), 0, false, api.ErrDedupOrder},
		{at("t", 1), batch(2, 3, 4, 2), 0, false, api.ErrDedupOrder},
		{at("u", 0), batch(2, 3, 4, 2), 0, false, api.ErrDedupOrder},
		// Two faults at once: the epoch is told ahead of the number.
		{at("t", 0), batch(2, 2, 24, 1), 0, false, api.ErrDedupFence},
		{at("t", 0), batch(2, 4, 24, 1), 0, false, api.ErrDedupNone},
		{at("t", 0), batch(2, 2, 4, 2), 0, false, api.ErrDedupFence},
		{at("t", 0), batch(2, 4, 4, 2), 0, false, api.ErrDedupNone},
		{at("t", 0), batch(4, -1, 9, 1), 0, false, api.ErrDedupNone},
		{at("t", 0), batch(-1, -1, -1, 0), 0, false, api.ErrDedupNone},
	} {
		// Asked twice, as asking changes nothing.
		for range 2 {
			offset, had, e := k.Ask(x.part, x.b)
			if offset != x.offset || had != x.had || e != x.e {
				t.Errorf("%d: Ask(%v, %s): %d, %v, %d, want %d, %v, %d", i, x.part, text(x.b), offset, had, e, x.offset, x.had, x.e)
			}
		}
	}
	match(t, k, p)
}

func TestAskWithoutProducers(t *testing.T) {
	k := New()
	for _, id := range []int{math.MinInt, -1, 1, 2, math.MaxInt} {
		if offset, had, e := k.Ask(at("t", 0), batch(id, 0, 0, 1)); offset != 0 || had || e != api.ErrDedupNone {
			t.Errorf("of producer %d: %d, %v, %d", id, offset, had, e)
		}
	}
	if offset, had, e := k.Ask(at("t", 0), batch(0, 0, 0, 1)); offset != 0 || had || e != api.OK {
		t.Errorf("of nobody: %d, %v, %d", offset, had, e)
	}
}

// A batch is told by its numbers alone, not by what its records are.
func TestAskOfOtherRecords(t *testing.T) {
	k, _ := makers(t, 1)
	b, other := batch(1, 0, 0, 2), batch(1, 0, 0, 2)
	other.Records[1] = api.Record{HasKey: true, Key: "k", Value: "v"}
	k.Done(at("t", 0), b, 7)
	if offset, had, e := k.Ask(at("t", 0), other); offset != 7 || !had || e != api.OK {
		t.Errorf("Ask: %d, %v, %d", offset, had, e)
	}
}

func TestPartitionsAreApart(t *testing.T) {
	k, p := makers(t, 2)
	parts := []api.Part{at("t", 0), at("t", 1), at("t", 7), at("u", 0), at("", 0), at("t0", 1), at("t\x00", 0)}
	for i, part := range parts {
		for id := 1; id <= 2; id++ {
			mustDo(t, k, p, part, id, row(1, i+id-1)...)
			match(t, k, p)
		}
	}
	for i, part := range parts {
		if n := len(p.last(2, part)); n != min(i+1, 5) {
			t.Errorf("%v: %d are remembered", part, n)
		}
	}
}

// P8.3

func TestDone(t *testing.T) {
	for i, x := range []struct {
		b      api.Batch
		offset int
		e      api.Errno
	}{
		{batch(1, 0, 5, 1), 9, api.OK},
		{batch(1, 0, 5, 2), 0, api.OK},
		{batch(1, 0, 5, 16), most, api.OK},
		{batch(2, 3, 0, 1), 9, api.OK},
		{batch(1, 0, 5, 1), -1, api.ErrArg},
		{batch(1, 0, 5, 1), math.MinInt, api.ErrArg},
		{batch(1, 0, 5, 1), most + 1, api.ErrArg},
		{batch(1, 0, 5, 1), math.MaxInt, api.ErrArg},
		{batch(1, 0, 5, 0), 9, api.ErrArg},
		{batch(1, 0, 5, 0), -1, api.ErrArg},
		{api.Batch{Producer: 1, Seq: 5}, 9, api.ErrArg},
		// Nobody's.
		{batch(0, 0, 0, 1), 9, api.OK},
		{batch(0, 7, 9, 2), 0, api.OK},
		{batch(0, -1, -1, 2), most, api.OK},
		{batch(0, 0, 0, 0), 9, api.ErrArg},
		{batch(0, 0, 0, 1), -1, api.ErrArg},
		{batch(0, 0, 0, 1), most + 1, api.ErrArg},
		{batch(0, 0, 0, 0), -1, api.ErrArg},
		// Ask's errors, told ahead of others.
		{batch(3, 0, 0, 1), 9, api.ErrDedupNone},
		{batch(-1, 0, 0, 1), 9, api.ErrDedupNone},
		{batch(3, 0, 0, 0), 9, api.ErrDedupNone},
		{batch(3, 0, 0, 1), -1, api.ErrDedupNone},
		{batch(2, 2, 0, 1), 9, api.ErrDedupFence},
		{batch(2, 2, 0, 0), 9, api.ErrDedupFence},
		{batch(2, 2, 0, 1), most + 1, api.ErrDedupFence},
		{batch(2, 4, 0, 1), 9, api.ErrDedupNone},
		{batch(2, 4, 0, 0), -1, api.ErrDedupNone},
		{batch(1, 0, 6, 1), 9, api.ErrDedupOrder},
		{batch(1, 0, 6, 0), 9, api.ErrDedupOrder},
		{batch(1, 0, 6, 1), -1, api.ErrDedupOrder},
		{batch(1, 0, 4, 2), 9, api.ErrDedupOrder},
		{batch(1, 0, 4, 0), -1, api.ErrDedupOrder},
		// It was there.
		{batch(1, 0, 4, 1), 104, api.ErrDedupOrder},
		{batch(1, 0, 4, 1), 9, api.ErrDedupOrder},
		{batch(1, 0, 0, 1), -1, api.ErrDedupOrder},
		{batch(1, 0, 0, 1), most + 1, api.ErrDedupOrder},
	} {
		k, p := mustLoad(t, []int{0, 3}, maker(1, 0, at("t", 0), run(0, 5)...))
		was := k.Makers()
		if want := p.done(at("t", 0), x.b, x.offset); want != x.e {
			t.Fatalf("%d: the plain one says %d", i, want)
		}
		if e := k.Done(at("t", 0), x.b, x.offset); e != x.e {
			t.Errorf("%d: Done of %s at %d: %d, want %d", i, text(x.b), x.offset, e, x.e)
		}
		match(t, k, p)
		// An error changes nothing, and nobody's batches neither.
		if changed := !sameMakers(k.Makers(), was); changed != (x.e == api.OK && x.b.Producer != 0) {
			t.Errorf("%d: %v, was %v", i, k.Makers(), was)
		}
	}
}

func TestTheSixthLetsTheFirstGo(t *testing.T) {
	k, p := makers(t, 2)
	part := at("t", 0)
	mustDo(t, k, p, part, 2, 1, 1, 1, 1)
	seq := 0
	for i := range 12 {
		n := 1 + i%3
		b := batch(1, 0, seq, n)
		if e := k.Done(part, b, 10*i); e != api.OK {
			t.Fatalf("%d: %d", i, e)
		}
		p.done(part, b, 10*i)
		match(t, k, p)
		m := k.Makers()
		if len(m) != 2 || len(m[0].Last) != min(i+1, 5) || len(m[1].Last) != 4 {
			t.Fatalf("%d: %v", i, m)
		}
		if d := m[0].Last[len(m[0].Last)-1]; d.Seq != seq || d.N != n || d.Offset != 10*i {
			t.Errorf("%d: the last one is %v", i, d)
		}
		seq += n
	}
}

// No greatest first number is named of Ask and Done.
func TestDoneBehindGreatNumbers(t *testing.T) {
	part := at("t", 0)
	for _, d := range []api.Did{{Seq: most - 1, N: 1}, {Seq: most, N: 1}, {Seq: most, N: most}, {Seq: 0, N: most}} {
		k, p := mustLoad(t, []int{0}, maker(1, 0, part, d))
		match(t, k, p)
		mustDo(t, k, p, part, 1, 1, 16)
		match(t, k, p)
		if offset, had, e := k.Ask(part, batch(1, 0, d.Seq+d.N, 1)); offset != 1001 || !had || e != api.OK {
			t.Errorf("behind %v: %d, %v, %d", d, offset, had, e)
		}
	}
}

// P8.4

func TestEpochsAndMakers(t *testing.T) {
	k := New()
	if l, m := k.Epochs(), k.Makers(); len(l) != 0 || len(m) != 0 {
		t.Errorf("of none: %v, %v", l, m)
	}
	k.Open(0)
	if l, m := k.Epochs(), k.Makers(); !slices.Equal(l, []int{0}) || len(m) != 0 {
		t.Errorf("of one: %v, %v", l, m)
	}
	k.Open(1)
	k.Done(at("t", 3), batch(1, 1, 0, 2), 40)
	k.Done(at("t", 3), batch(1, 1, 2, 1), 50)
	want := []api.Maker{maker(1, 1, at("t", 3), api.Did{Seq: 0, N: 2, Offset: 40}, api.Did{Seq: 2, N: 1, Offset: 50})}
	if l, m := k.Epochs(), k.Makers(); !slices.Equal(l, []int{1}) || !sameMakers(m, want) {
		t.Errorf("then %v, %v", l, m)
	}
}

// inOrder are partitions in the order in which they are told.
func inOrder() []api.Part {
	return []api.Part{
		at("", 0), at("", 3), at("\x00", 0), at("A", 1), at("Z", 0), at("a", 0), at("a", 2), at("a", 9), at("a", 10), at("a", 100),
		at("a\x00", 0), at("aa", 0), at("ab", 0), at("b", 0), at("b", 1), at("ba", 0), at("t", 0), at("t", 7), at("t10", 0), at("t2", 0),
		at("tt", 0), at("\x7f", 0), at("\x80", 0), at("\u00e9", 0), at("\u4e00", 0), at("\U0001f600", 0), at("\xff", 0), at("\xff\x00", 0),
	}
}

func TestMakersStandInOrder(t *testing.T) {
	want := inOrder()
	for seed := range 20 {
		c := chance(seed)
		k, p := makers(t, 12)
		for _, id := range []int{12, 2, 10, 1} {
			l := slices.Clone(want)
			for len(l) > 0 {
				i := c.below(len(l))
				mustDo(t, k, p, l[i], id, 1)
				l = slices.Delete(l, i, i+1)
			}
		}
		got := k.Makers()
		if len(got) != 4*len(want) {
			t.Fatalf("%d are told", len(got))
		}
		for i, m := range got {
			if id := []int{1, 2, 10, 12}[i/len(want)]; m.Id != id || m.Part != want[i%len(want)] {
				t.Errorf("%d: producer %d, %v", i, m.Id, m.Part)
			}
		}
		// The same again, however the map is gone through.
		for range 5 {
			if again := k.Makers(); !sameMakers(again, got) {
				t.Errorf("%v, and then %v", got, again)
			}
		}
		tells(t, k, p)
	}
}

func TestCopy(t *testing.T) {
	for name, build := range map[string]func() (*Table, *plain){
		"empty":    func() (*Table, *plain) { return New(), &plain{} },
		"one":      func() (*Table, *plain) { return makers(t, 1) },
		"all":      func() (*Table, *plain) { return makers(t, 32) },
		"crowd":    func() (*Table, *plain) { return crowd(t) },
		"loaded":   func() (*Table, *plain) { return mustLoad(t, []int{most, 4}, maker(2, 4, at("t", 0), run(7, 5)...)) },
		"fenced":   func() (*Table, *plain) { k, p := crowd(t); k.Open(1); p.open(1); return k, p },
		"a copy's": func() (*Table, *plain) { k, p := crowd(t); return k.Copy().Copy(), p },
	} {
		k, p := build()
		c := k.Copy()
		if c == k {
			t.Fatalf("%s: it is the same one", name)
		}
		match(t, c, p)
		// What one does the other one does not hear of, whichever it is.
		for _, x := range []struct{ a, b *Table }{{k.Copy(), k}, {c.Copy(), c}, {k, k.Copy()}} {
			q := p.copy()
			if x.a == k {
				q = p
			}
			was := p.copy()
			change(t, x.a, q)
			match(t, x.a, q)
			match(t, x.b, was)
		}
		match(t, c, plainLoad(c.Epochs(), c.Makers()))
	}
}

// change does all that changes a table.
func change(t *testing.T, k *Table, p *plain) {
	t.Helper()
	for _, id := range []int{0, 3, 2} {
		got, epoch, e := k.Open(id)
		if want, wantEpoch, wantE := p.open(id); got != want || epoch != wantEpoch || e != wantE {
			t.Fatalf("Open(%d): %d, %d, %d", id, got, epoch, e)
		}
	}
	for id := range p.epochs {
		mustDo(t, k, p, at("t", 0), id+1, 2, 1, 4)
		mustDo(t, k, p, at("more", 1), id+1, 1, 1, 1, 1, 1, 1)
	}
}

// Both go on from five that are remembered, each with its own batches.
func TestCopyOfAFullWindow(t *testing.T) {
	part := at("t", 0)
	for n := 1; n <= 6; n++ {
		k, p := makers(t, 1)
		mustDo(t, k, p, part, 1, row(1, n)...)
		c, q := k.Copy(), p.copy()
		for i := range 7 {
			mustDo(t, k, p, part, 1, 1)
			mustDo(t, c, q, part, 1, 2+i)
			match(t, k, p)
			match(t, c, q)
		}
	}
}

// P8.5

func TestLoad(t *testing.T) {
	most32 := make([]int, 32)
	for i := range most32 {
		most32[i] = i * most / 31
	}
	var everywhere []api.Maker
	for _, id := range []int{1, 2, 31, 32} {
		for i, part := range inOrder() {
			everywhere = append(everywhere, maker(id, most32[id-1], part, run(i, 1+i%5)...))
		}
	}
	for i, x := range []struct {
		epochs []int
		l      []api.Maker
	}{
		{nil, nil},
		{[]int{}, []api.Maker{}},
		{[]int{0}, nil},
		{[]int{most}, nil},
		{most32, nil},
		{most32, everywhere},
		{[]int{0, 3}, []api.Maker{maker(1, 0, at("t", 0), api.Did{Seq: 5, N: 2, Offset: 9}), maker(2, 3, at("t", 0), api.Did{N: 1})}},
		{[]int{0, 3}, []api.Maker{maker(2, 3, at("t", 0), api.Did{N: 1})}},
		// One up to five, from a number on.
		{[]int{0}, []api.Maker{maker(1, 0, at("t", 0), run(0, 1)...), maker(1, 0, at("t", 1), run(1, 2)...), maker(1, 0, at("t", 2), run(2, 3)...), maker(1, 0, at("t", 3), run(3, 4)...), maker(1, 0, at("t", 4), run(4, 5)...)}},
		// Up to the greatest numbers.
		{[]int{most}, []api.Maker{maker(1, most, at("t", 0), api.Did{Seq: most, N: most, Offset: most})}},
		{[]int{0}, []api.Maker{maker(1, 0, at("t", 0), api.Did{Seq: 0, N: most, Offset: most}, api.Did{Seq: most, N: 1, Offset: 0})}},
		{[]int{0}, []api.Maker{maker(1, 0, at("t", 0), api.Did{Seq: most - 7, N: 7, Offset: 9}, api.Did{Seq: most, N: 99, Offset: 0})}},
		// Nothing is said of offsets that fall.
		{[]int{0}, []api.Maker{maker(1, 0, at("t", 0), api.Did{Seq: 0, N: 3, Offset: 9}, api.Did{Seq: 3, N: 1, Offset: 9}, api.Did{Seq: 4, N: 1, Offset: 2})}},
	} {
		k, p := mustLoad(t, x.epochs, x.l...)
		if !slices.Equal(k.Epochs(), x.epochs) || !sameMakers(k.Makers(), x.l) {
			t.Errorf("%d: told %v, %v", i, k.Epochs(), k.Makers())
		}
		match(t, k, p)
		goOn(t, k, p)
	}
}

// goOn makes at least three producers, ahead of all else that changes a table.
func goOn(t *testing.T, k *Table, p *plain) {
	t.Helper()
	for len(p.epochs) < 3 {
		k.Open(0)
		p.open(0)
	}
	change(t, k, p)
	match(t, k, p)
}

func TestLoadOfWhatWasTold(t *testing.T) {
	k, p := crowd(t)
	again, e := Load(k.Epochs(), k.Makers())
	if e != api.OK {
		t.Fatalf("Load: %d", e)
	}
	match(t, again, p)
	change(t, again, p.copy())
	match(t, k, p)
}

func TestLoadRefuses(t *testing.T) {
	one := func(d api.Did) []api.Maker { return []api.Maker{maker(1, 0, at("t", 0), d)} }
	two := func(a, b api.Did) []api.Maker { return []api.Maker{maker(1, 0, at("t", 0), a, b)} }
	good := api.Did{Seq: 4, N: 2, Offset: 9}
	parts := func(l ...api.Part) []api.Maker {
		var out []api.Maker
		for _, p := range l {
			out = append(out, maker(1, 0, p, good))
		}
		return out
	}
	ids := func(l ...int) []api.Maker {
		var out []api.Maker
		for _, id := range l {
			out = append(out, maker(id, 0, at("t", 0), good))
		}
		return out
	}
	many := func(n int, last int) []int {
		l := make([]int, n)
		l[n-1] = last
		return l
	}
	zero := []int{0, 0, 0}
	for i, x := range []struct {
		epochs []int
		l      []api.Maker
		e      api.Errno
	}{
		// Too many producers, and whatever else.
		{many(33, 0), nil, api.ErrBig},
		{many(100, 0), nil, api.ErrBig},
		{many(33, -1), nil, api.ErrBig},
		{many(33, 0), ids(34), api.ErrBig},
		{many(33, most+1), ids(2, 1), api.ErrBig},
		// Epochs.
		{[]int{-1}, nil, api.ErrArg},
		{[]int{math.MinInt}, nil, api.ErrArg},
		{[]int{most + 1}, nil, api.ErrArg},
		{[]int{math.MaxInt}, nil, api.ErrArg},
		{[]int{0, 5, -1, 7}, nil, api.ErrArg},
		{many(32, most+1), nil, api.ErrArg},
		{[]int{-1}, []api.Maker{maker(1, -1, at("t", 0), good)}, api.ErrArg},
		{[]int{most + 1}, []api.Maker{maker(1, most+1, at("t", 0), good)}, api.ErrArg},
		{[]int{-1}, ids(2), api.ErrArg},
		// No such producer.
		{nil, ids(1), api.ErrArg},
		{zero, ids(0), api.ErrArg},
		{zero, ids(-1), api.ErrArg},
		{zero, ids(4), api.ErrArg},
		{zero, ids(math.MinInt), api.ErrArg},
		{zero, ids(math.MaxInt), api.ErrArg},
		{zero, ids(1, 2, 3, 4), api.ErrArg},
		{zero, ids(0, 1), api.ErrArg},
		// Another epoch.
		{[]int{0, 3}, []api.Maker{maker(2, 2, at("t", 0), good)}, api.ErrArg},
		{[]int{0, 3}, []api.Maker{maker(2, 4, at("t", 0), good)}, api.ErrArg},
		{[]int{0, 3}, []api.Maker{maker(2, 0, at("t", 0), good)}, api.ErrArg},
		{[]int{3, 0}, []api.Maker{maker(1, 3, at("t", 0), good), maker(2, 3, at("t", 0), good)}, api.ErrArg},
		// Out of order, or twice.
		{zero, ids(2, 1), api.ErrArg},
		{zero, ids(1, 3, 2), api.ErrArg},
		{zero, ids(1, 1), api.ErrArg},
		{zero, ids(1, 2, 2), api.ErrArg},
		{zero, ids(1, 2, 1), api.ErrArg},
		{zero, parts(at("t", 1), at("t", 0)), api.ErrArg},
		{zero, parts(at("t", 10), at("t", 9)), api.ErrArg},
		{zero, parts(at("t", 0), at("s", 0)), api.ErrArg},
		{zero, parts(at("t", 0), at("s", 1)), api.ErrArg},
		{zero, parts(at("a", 0), at("Z", 0)), api.ErrArg},
		{zero, parts(at("aa", 0), at("a", 0)), api.ErrArg},
		{zero, parts(at("t2", 0), at("t10", 0)), api.ErrArg},
		{zero, parts(at("\u00e9", 0), at("z", 0)), api.ErrArg},
		{zero, parts(at("\xff", 0), at("\U0001f600", 0)), api.ErrArg},
		{zero, parts(at("t", 0), at("u", 0), at("t", 0)), api.ErrArg},
		{zero, parts(at("t", 0), at("t", 0)), api.ErrArg},
		{zero, []api.Maker{maker(1, 0, at("t", 0), run(0, 1)...), maker(1, 0, at("t", 0), run(1, 1)...)}, api.ErrArg},
		{zero, []api.Maker{maker(2, 0, at("s", 0), good), maker(1, 0, at("t", 0), good)}, api.ErrArg},
		// None, and more than five.
		{zero, []api.Maker{maker(1, 0, at("t", 0))}, api.ErrArg},
		{zero, []api.Maker{maker(1, 0, at("t", 0), []api.Did{}...)}, api.ErrArg},
		{zero, []api.Maker{maker(1, 0, at("t", 0), good), maker(2, 0, at("t", 0))}, api.ErrArg},
		{zero, []api.Maker{maker(1, 0, at("t", 0), run(0, 6)...)}, api.ErrArg},
		{zero, []api.Maker{maker(1, 0, at("t", 0), run(7, 100)...)}, api.ErrArg},
		// Numbers of one batch.
		{zero, one(api.Did{Seq: -1, N: 2, Offset: 9}), api.ErrArg},
		{zero, one(api.Did{Seq: math.MinInt, N: 2, Offset: 9}), api.ErrArg},
		{zero, one(api.Did{Seq: most + 1, N: 2, Offset: 9}), api.ErrArg},
		{zero, one(api.Did{Seq: math.MaxInt, N: 2, Offset: 9}), api.ErrArg},
		{zero, one(api.Did{Seq: 4, N: 2, Offset: -1}), api.ErrArg},
		{zero, one(api.Did{Seq: 4, N: 2, Offset: math.MinInt}), api.ErrArg},
		{zero, one(api.Did{Seq: 4, N: 2, Offset: most + 1}), api.ErrArg},
		{zero, one(api.Did{Seq: 4, N: 2, Offset: math.MaxInt}), api.ErrArg},
		{zero, one(api.Did{Seq: 4, N: 0, Offset: 9}), api.ErrArg},
		{zero, one(api.Did{Seq: 4, N: -1, Offset: 9}), api.ErrArg},
		{zero, one(api.Did{Seq: 4, N: math.MinInt, Offset: 9}), api.ErrArg},
		{zero, one(api.Did{Seq: 4, N: most + 1, Offset: 9}), api.ErrArg},
		{zero, one(api.Did{Seq: 4, N: math.MaxInt, Offset: 9}), api.ErrArg},
		{zero, one(api.Did{Seq: -1, N: 0, Offset: -1}), api.ErrArg},
		// Of the second one.
		{zero, two(good, api.Did{Seq: 6, N: 0, Offset: 9}), api.ErrArg},
		{zero, two(good, api.Did{Seq: 6, N: most + 1, Offset: 9}), api.ErrArg},
		{zero, two(good, api.Did{Seq: 6, N: 1, Offset: -1}), api.ErrArg},
		{zero, two(good, api.Did{Seq: 6, N: 1, Offset: most + 1}), api.ErrArg},
		{zero, two(api.Did{Seq: most, N: 1}, api.Did{Seq: most + 1, N: 1}), api.ErrArg},
		{zero, two(api.Did{Seq: 1, N: most}, api.Did{Seq: most + 1, N: 1}), api.ErrArg},
		{zero, two(api.Did{Seq: 5, N: 0}, api.Did{Seq: 5, N: 1}), api.ErrArg},
		{zero, two(api.Did{Seq: 5, N: -3}, api.Did{Seq: 2, N: 1}), api.ErrArg},
		{zero, two(api.Did{Seq: math.MaxInt, N: 1}, api.Did{Seq: math.MinInt, N: 1}), api.ErrArg},
		{zero, two(api.Did{Seq: 1, N: math.MaxInt}, api.Did{Seq: math.MinInt, N: 1}), api.ErrArg},
		// A hole, or numbers twice.
		{zero, two(good, api.Did{Seq: 7, N: 1, Offset: 12}), api.ErrArg},
		{zero, two(good, api.Did{Seq: 5, N: 1, Offset: 12}), api.ErrArg},
		{zero, two(good, api.Did{Seq: 4, N: 2, Offset: 12}), api.ErrArg},
		{zero, two(good, api.Did{Seq: 0, N: 1, Offset: 12}), api.ErrArg},
		{zero, []api.Maker{maker(1, 0, at("t", 0), append(run(0, 4), api.Did{Seq: 5, N: 1})...)}, api.ErrArg},
		{zero, []api.Maker{maker(1, 0, at("t", 0), append(run(0, 4), api.Did{Seq: 3, N: 1})...)}, api.ErrArg},
		{zero, []api.Maker{maker(1, 0, at("t", 0), append([]api.Did{{Seq: 9, N: 1}}, run(0, 4)...)...)}, api.ErrArg},
		{zero, []api.Maker{maker(1, 0, at("t", 0), good), maker(1, 0, at("t", 1), good, good)}, api.ErrArg},
		// Two faults at once.
		{zero, []api.Maker{maker(4, 1, at("t", 0))}, api.ErrArg},
		{zero, []api.Maker{maker(2, 0, at("t", 0), run(0, 6)...), maker(1, 0, at("t", 0), good)}, api.ErrArg},
		{[]int{-1, 0}, []api.Maker{maker(2, 1, at("t", 0), api.Did{Seq: -1})}, api.ErrArg},
	} {
		if k, e := Load(x.epochs, x.l); k != nil || e != x.e {
			t.Errorf("%d: Load(%v, %v): %v, %d, want %d", i, x.epochs, x.l, k, e, x.e)
		}
	}
}

// P8.6

// sent is a batch that a producer sent, and where it was appended.
type sent struct {
	part   api.Part
	b      api.Batch
	offset int
}

// logs are partitions' logs, to which batches are appended of which the table says that they were not.
type logs struct {
	k    *Table
	ends map[api.Part]int
	n    int
}

// send does as a broker does, and tells where the batch is.
func (g *logs) send(t *testing.T, part api.Part, b api.Batch) int {
	t.Helper()
	offset, had, e := g.k.Ask(part, b)
	if e != api.OK {
		t.Fatalf("Ask(%v, %s): %d", part, text(b), e)
	}
	if had {
		return offset
	}
	offset = g.ends[part]
	g.ends[part] += len(b.Records)
	g.n++
	if e := g.k.Done(part, b, offset); e != api.OK {
		t.Fatalf("Done(%v, %s): %d", part, text(b), e)
	}
	return offset
}

func TestBatchesAreAppendedOnce(t *testing.T) {
	parts := []api.Part{at("t", 0), at("t", 1), at("u", 0)}
	for seed := range 30 {
		c := chance(seed)
		k, _ := makers(t, 3)
		g := &logs{k: k, ends: map[api.Part]int{}}
		type lane struct {
			id   int
			part api.Part
		}
		past, count := map[lane][]sent{}, 0
		for range 150 {
			id, part := 1+c.below(3), parts[c.below(3)]
			l := past[lane{id, part}]
			seq := 0
			if len(l) > 0 {
				seq = l[len(l)-1].b.Seq + len(l[len(l)-1].b.Records)
			}
			// None is taken ahead of the one that is due.
			for _, ahead := range []int{1, 2, 1 + c.below(100)} {
				if _, _, e := k.Ask(part, batch(id, 0, seq+ahead, 1)); e != api.ErrDedupOrder {
					t.Fatalf("%d: Ask of number %d, where %d is due: %d", seed, seq+ahead, seq, e)
				}
				if e := k.Done(part, batch(id, 0, seq+ahead, 1), 1); e != api.ErrDedupOrder {
					t.Fatalf("%d: Done of number %d, where %d is due: %d", seed, seq+ahead, seq, e)
				}
			}
			s := sent{part, batch(id, 0, seq, 1+c.below(16)), g.ends[part]}
			if got := g.send(t, part, s.b); got != s.offset {
				t.Fatalf("%d: appended at %d, want %d", seed, got, s.offset)
			}
			count++
			l = append(l, s)
			past[lane{id, part}] = l
			// The last five are sent again, as often as it likes.
			for range 4 {
				s := l[len(l)-1-c.below(min(5, len(l)))]
				if got := g.send(t, s.part, s.b); got != s.offset {
					t.Fatalf("%d: sent again it is at %d, was at %d", seed, got, s.offset)
				}
			}
			if len(l) > 5 {
				old := l[c.below(len(l)-5)]
				if _, _, e := k.Ask(old.part, old.b); e != api.ErrDedupOrder {
					t.Fatalf("%d: an old one: %d", seed, e)
				}
			}
			if g.n != count {
				t.Fatalf("%d: %d were appended, of %d", seed, g.n, count)
			}
		}
	}
}

// All that a table does, at random, is what the plain one does.
func TestAnythingInAnyOrder(t *testing.T) {
	parts := []api.Part{at("t", 0), at("t", 1), at("u", 0), at("tt", 5)}
	for seed := range 60 {
		c := chance(seed)
		start := []int{0, most - 2, 3}[:c.below(4)]
		k, p := mustLoad(t, start)
		for range 300 {
			switch c.below(12) {
			case 0:
				id := c.below(len(p.epochs)+3) - 1
				got, epoch, e := k.Open(id)
				if want, wantEpoch, wantE := p.open(id); got != want || epoch != wantEpoch || e != wantE {
					t.Fatalf("%d: Open(%d): %d, %d, %d, want %d, %d, %d", seed, id, got, epoch, e, want, wantEpoch, wantE)
				}
			case 1:
				again, e := Load(k.Epochs(), k.Makers())
				if e != api.OK {
					t.Fatalf("%d: Load of what was told: %d", seed, e)
				}
				k = again.Copy()
			default:
				part, b := parts[c.below(4)], batch(c.below(len(p.epochs)+2)-c.below(8)/7, 0, c.below(4), c.below(4))
				if id := b.Producer; id > 0 && id <= len(p.epochs) {
					b.Epoch = p.epochs[id-1] + c.below(9)/8 - c.below(9)/8
					if l := p.last(id, part); l != nil {
						b.Seq += l[c.below(len(l))].Seq
					}
				}
				offset := c.below(50) - 2
				got, had, e := k.Ask(part, b)
				if want, wantHad, wantE := p.ask(part, b); got != want || had != wantHad || e != wantE {
					t.Fatalf("%d: Ask(%v, %s): %d, %v, %d, want %d, %v, %d", seed, part, text(b), got, had, e, want, wantHad, wantE)
				}
				if e, want := k.Done(part, b, offset), p.done(part, b, offset); e != want {
					t.Fatalf("%d: Done(%v, %s, %d): %d, want %d", seed, part, text(b), offset, e, want)
				}
			}
			tells(t, k, p)
		}
		match(t, k, p)
	}
}

// R4

// roomy is a list with room behind it, and the whole of it.
func roomy[T any](l []T, behind T) ([]T, []T) {
	whole := append(slices.Clone(l), behind, behind, behind)
	return whole[:len(l)], whole
}

// spoil fills a list, and the room behind it.
func spoil[T any](l []T, by T) {
	l = l[:cap(l)]
	for i := range l {
		l[i] = by
	}
}

func TestWhatIsHandedInStays(t *testing.T) {
	bad := api.Did{Seq: -1, N: -1, Offset: -1}
	epochs, wholeEpochs := roomy([]int{0, 7}, -5)
	last, wholeLast := roomy(run(3, 2), bad)
	full, wholeFull := roomy(run(3, 5), bad)
	l, wholeL := roomy([]api.Maker{maker(1, 0, at("t", 0), last...), maker(2, 7, at("t", 0), full...)}, maker(9, 9, at("x", 9), bad))
	l[0].Last, l[1].Last = last, full
	records, wholeRecords := roomy([]api.Record{{Value: "a"}, {HasKey: true, Key: "k", Tomb: true}}, api.Record{Value: "room"})
	wasEpochs, wasLast, wasFull, wasRecords := slices.Clone(wholeEpochs), slices.Clone(wholeLast), slices.Clone(wholeFull), slices.Clone(wholeRecords)
	wasL := slices.Clone(wholeL)
	stays := func(when string) {
		if !slices.Equal(wholeEpochs, wasEpochs) || !slices.Equal(wholeLast, wasLast) || !slices.Equal(wholeFull, wasFull) || !slices.Equal(wholeRecords, wasRecords) || !sameMakers(wholeL, wasL) {
			t.Errorf("%s: %v, %v, %v, %v, %v", when, wholeEpochs, wholeLast, wholeFull, wholeRecords, wholeL)
		}
	}
	k, p := mustLoad(t, epochs, l...)
	stays("Load")
	k.Open(0)
	p.open(0)
	stays("Open of a new one")
	for _, b := range []api.Batch{{Producer: 1, Seq: 5, Records: records}, {Producer: 2, Epoch: 7, Seq: 8, Records: records}} {
		k.Ask(at("t", 0), b)
		if e, want := k.Done(at("t", 0), b, 50), p.done(at("t", 0), b, 50); e != want || e != api.OK {
			t.Errorf("Done: %d, %d", e, want)
		}
		stays("Done")
	}
	match(t, k, p)
	k.Open(1)
	p.open(1)
	stays("Open")
	k.Epochs()
	k.Makers()
	stays("Makers")
	// It is not kept either.
	spoil(epochs, -5)
	spoil(last, bad)
	spoil(full, bad)
	spoil(records, api.Record{Value: "spoilt"})
	spoil(l, maker(9, 9, at("x", 9)))
	match(t, k, p)
}

// Lists that are handed in are not kept, from the beginning on: not even one that has nothing but room.
func TestLoadKeepsNothing(t *testing.T) {
	bad := api.Did{Seq: -1, N: -1, Offset: -1}
	room := make([]int, 0, 32)
	k, p := mustLoad(t, room)
	k.Open(0)
	p.open(0)
	spoil(room, 9)
	match(t, k, p)
	for n := 1; n <= 5; n++ {
		epochs, last := []int{4, 4}, run(0, n)
		l := []api.Maker{{Id: 2, Epoch: 4, Part: at("t", 0), Last: last}}
		k, e := Load(epochs, l)
		if e != api.OK {
			t.Fatalf("Load: %d", e)
		}
		p := plainLoad(epochs, l)
		spoil(epochs, 9)
		spoil(last, bad)
		spoil(l, maker(1, 9, at("x", 9)))
		match(t, k, p)
	}
}

func TestWhatIsToldIsItsOwners(t *testing.T) {
	bad := api.Did{Seq: -1, N: -1, Offset: -1}
	for i := range 4 {
		k, p := crowd(t)
		if i%2 == 1 {
			k, _ = mustLoad(t, k.Epochs(), k.Makers()...)
		}
		c := k
		if i > 1 {
			c = k.Copy()
		}
		spoil(c.Epochs(), 99)
		l := c.Makers()
		// What one of the lists within is made into the other ones don't hear of, nor does its room.
		for j, m := range l {
			spoil(m.Last, bad)
			for _, other := range l[j+1:] {
				if slices.Contains(other.Last[:cap(other.Last)], bad) {
					t.Fatalf("%d: two lists share room", j)
				}
			}
		}
		spoil(l, maker(9, 9, at("x", 9)))
		match(t, k, p)
		match(t, c, p)
		// What was told stays as it is, whatever comes then.
		epochs, told := k.Epochs(), k.Makers()
		wantEpochs, want := slices.Clone(p.epochs), p.makers()
		change(t, k, p)
		if !slices.Equal(epochs, wantEpochs) || !sameMakers(told, want) {
			t.Errorf("told %v, %v, was %v, %v", epochs, told, wantEpochs, want)
		}
	}
}

// heldBytes is how much memory is in use.
func heldBytes() int64 {
	runtime.GC()
	var m runtime.MemStats
	runtime.ReadMemStats(&m)
	return int64(m.HeapAlloc)
}

// Topics' names that are pieces of great texts are handed in, and great batches, and lists with room: they are not kept.
func TestGreatThingsAreNotKept(t *testing.T) {
	const great, n = 1 << 20, 20
	for name, one := range map[string]func(i int) *Table{
		"Load": func(i int) *Table {
			k, _ := Load([]int{0}, []api.Maker{maker(1, 0, at(strings.Repeat("x", great)[i:i+9], 0), run(0, 1)...)})
			return k
		},
		"room": func(i int) *Table {
			k, _ := Load(make([]int, 0, great/8), make([]api.Maker, 0, great/64))
			return k
		},
		"Done": func(i int) *Table {
			k := New()
			k.Open(0)
			k.Done(at(strings.Repeat("x", great)[i:i+9], 0), batch(1, 0, 0, 1), 7)
			return k
		},
		"Done again": func(i int) *Table {
			k := New()
			k.Open(0)
			for j := range 2 {
				k.Done(at(strings.Repeat("x", great)[i:i+9], 0), batch(1, 0, j, 1), 7)
			}
			return k
		},
		"records": func(i int) *Table {
			k := New()
			k.Open(0)
			k.Done(at("t", i), api.Batch{Producer: 1, Records: []api.Record{{Value: strings.Repeat("x", great)}}}, 7)
			return k
		},
	} {
		before := heldBytes()
		var kept []*Table
		for i := range n {
			kept = append(kept, one(i))
		}
		if more := heldBytes() - before; more > great {
			t.Errorf("%s: %d bytes are kept", name, more)
		}
		runtime.KeepAlive(kept)
	}
}

// What was forgotten is not kept.
func TestWhatWentIsNotKept(t *testing.T) {
	k, _ := makers(t, 2)
	before := heldBytes()
	for i := range 100000 {
		if e := k.Done(at("t", 0), batch(1, 0, i, 1), i); e != api.OK {
			t.Fatalf("%d: %d", i, e)
		}
	}
	if more := heldBytes() - before; more > 100000 {
		t.Errorf("%d bytes are kept of many batches", more)
	}
	for i := range 8 {
		k.Done(at(strings.Repeat("x", 1<<20), i), batch(2, 0, 0, 1), 7)
	}
	k.Open(2)
	if more := heldBytes() - before; more > 1<<20 {
		t.Errorf("%d bytes are kept of an epoch that went", more)
	}
	runtime.KeepAlive(k)
}
