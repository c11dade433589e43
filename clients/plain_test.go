package clients

import (
	"math"
	"slices"
	"strings"
	"testing"

	"stagecoach/api"
)

const most = 1 << 40 // the greatest client's number, and request's

// plain is a table as the chapter's words say it: a list of clients in the order in which they came, and each answer made by going over all of it.
type plain struct {
	l []api.Last
}

// own is a reply that shares nothing with r.
func own(r api.Reply) api.Reply {
	r.Found, r.Parts = slices.Concat(r.Found), slices.Concat(r.Parts)
	return r
}

// ownAll are rows that share nothing with l.
func ownAll(l []api.Last) []api.Last {
	l = slices.Clone(l)
	for i := range l {
		l[i].R = own(l[i].R)
	}
	return l
}

func alike(a, b api.Reply) bool {
	return a.E == b.E && a.Offset == b.Offset && a.N == b.N && a.Gen == b.Gen && slices.Equal(a.Found, b.Found) && slices.Equal(a.Parts, b.Parts)
}

func none(r api.Reply) bool {
	return alike(r, api.Reply{})
}

func sameRow(a, b api.Last) bool {
	return a.Client == b.Client && a.N == b.N && a.Done == b.Done && alike(a.R, b.R)
}

func sameRows(a, b []api.Last) bool {
	return slices.EqualFunc(a, b, sameRow)
}

func isNumber(n int) bool {
	return n >= 1 && n <= most
}

// place is where a client is; -1, if nothing is remembered of it.
func (p *plain) place(client int) int {
	for i, one := range p.l {
		if one.Client == client {
			return i
		}
	}
	return -1
}

func (p *plain) ask(client, n int) (int, api.Reply, api.Errno) {
	i := p.place(client)
	switch {
	case !isNumber(client) || !isNumber(n):
		return 0, api.Reply{}, 1
	case i < 0 || n > p.l[i].N:
		return 0, api.Reply{}, 0
	case n < p.l[i].N:
		return 0, api.Reply{}, 150
	case p.l[i].Done:
		return 1, own(p.l[i].R), 0
	}
	return 2, api.Reply{}, 0
}

func (p *plain) begin(client, n int) api.Errno {
	i := p.place(client)
	what, _, e := p.ask(client, n)
	switch {
	case e != 0:
		return e
	case what != 0:
	case i >= 0:
		p.l[i] = api.Last{Client: client, N: n}
	case len(p.l) == 16:
		return 2
	default:
		p.l = append(p.l, api.Last{Client: client, N: n})
	}
	return 0
}

func (p *plain) done(client, n int, r api.Reply) api.Errno {
	i := p.place(client)
	switch {
	case !isNumber(client) || !isNumber(n):
		return 1
	case i < 0:
		return 151
	case p.l[i].N != n:
		return 150
	}
	p.l[i] = api.Last{Client: client, N: n, Done: true, R: own(r)}
	return 0
}

// list are all of them, each one put in its place.
func (p *plain) list() []api.Last {
	var l []api.Last
	for _, one := range p.l {
		at := 0
		for at < len(l) && l[at].Client < one.Client {
			at++
		}
		l = slices.Insert(l, at, one)
	}
	return ownAll(l)
}

func (p *plain) copy() *plain {
	return &plain{ownAll(p.l)}
}

func begun(client, n int) api.Last {
	return api.Last{Client: client, N: n}
}

func done(client, n int, r api.Reply) api.Last {
	return api.Last{Client: client, N: n, Done: true, R: r}
}

// numbers are at the edges.
func numbers() []int {
	return []int{math.MinInt, -most - 1, -most, -1 << 32, -1, 0, 1, 2, 3, 1 << 32, 1<<32 + 1, most - 1, most, most + 1, 1 << 41, math.MaxInt - 1, math.MaxInt}
}

// badNumbers are no clients', and no requests'.
func badNumbers() []int {
	return slices.DeleteFunc(numbers(), isNumber)
}

func someFound(n int) []api.Found {
	var l []api.Found
	for i := range n {
		r := []api.Record{{}, {Value: "v"}, {HasKey: true, Key: "k", Tomb: true}, {HasKey: true, Key: "k", Value: "v"}}[i%4]
		l = append(l, api.Found{Offset: i * i, R: r})
	}
	return l
}

func someParts(n int) []api.Part {
	var l []api.Part
	for i := range n {
		l = append(l, api.Part{Topic: []string{"t", "a-0", "0123456789abcdef"}[i%3], N: i})
	}
	return l
}

// full is a reply with all that one may have.
func full() api.Reply {
	return api.Reply{E: 61, Offset: 300, N: 1, Gen: 2, Found: someFound(5), Parts: someParts(3)}
}

// numbersOf are where a reply's numbers stand, but E.
func numbersOf(r *api.Reply) []*int {
	l := []*int{&r.Offset, &r.N, &r.Gen}
	for i := range r.Found {
		l = append(l, &r.Found[i].Offset)
	}
	for i := range r.Parts {
		l = append(l, &r.Parts[i].N)
	}
	return l
}

// rightReplies may be: of each kind, and at the edges.
func rightReplies() []api.Reply {
	l := []api.Reply{
		{}, full(),
		{Found: []api.Found{}, Parts: []api.Part{}},
		{E: api.ErrLogBelow}, {E: most}, {Offset: 7}, {N: 1}, {Gen: 1}, {Offset: most, N: most, Gen: most},
		{Offset: 9, N: 2, Found: someFound(1)}, {Offset: 9, Found: someFound(64)},
		{Parts: someParts(1)}, {Parts: someParts(64)}, {Found: someFound(64), Parts: someParts(64)},
		{Found: []api.Found{{Offset: most, R: api.Record{HasKey: true, Key: strings.Repeat("k", 64), Value: strings.Repeat("v", 512)}}}},
		{Found: []api.Found{{R: api.Record{HasKey: true}}, {R: api.Record{HasKey: true, Key: "\xff\x00", Value: "\x00\xff"}}}},
		{Parts: []api.Part{{Topic: "----------------", N: most}}},
	}
	for i := range numbersOf(&api.Reply{Found: make([]api.Found, 5), Parts: make([]api.Part, 3)}) {
		for _, n := range []int{0, 1, 1 << 32, most} {
			r := full()
			*numbersOf(&r)[i] = n
			l = append(l, r)
		}
	}
	return l
}

// wrongReplies may not be, each for one thing.
func wrongReplies() []api.Reply {
	l := []api.Reply{
		{Found: someFound(65)}, {Parts: someParts(65)}, {Found: someFound(64), Parts: someParts(65)}, {Found: someFound(300)},
	}
	for _, n := range []int{math.MinInt, -most, -1, most + 1, math.MaxInt} {
		l = append(l, api.Reply{E: api.Errno(n)})
		for i := range numbersOf(&api.Reply{Found: make([]api.Found, 5), Parts: make([]api.Part, 3)}) {
			r := full()
			*numbersOf(&r)[i] = n
			l = append(l, r)
		}
	}
	for _, x := range []api.Record{
		{Key: "k"}, {Tomb: true}, {HasKey: true, Key: "k", Tomb: true, Value: "v"},
		{HasKey: true, Key: strings.Repeat("k", 65)}, {Value: strings.Repeat("v", 513)},
	} {
		for i := range 3 {
			r := api.Reply{Found: someFound(3)}
			r.Found[i].R = x
			l = append(l, r)
		}
	}
	for _, s := range []string{"", "T", "t_", "\xff", "\u00e9", "0123456789abcdefg"} {
		for i := range 3 {
			r := api.Reply{Parts: someParts(3)}
			r.Parts[i].Topic = s
			l = append(l, r)
		}
	}
	return l
}

// crowd are clients with and without replies, in order.
func crowd() []api.Last {
	return []api.Last{
		begun(1, 5), done(2, 5, full()), done(3, 1, api.Reply{}), done(9, most, api.Reply{E: 61}),
		done(10, 7, api.Reply{Offset: 9, Found: someFound(64)}), begun(1<<32, 1), done(1<<32+1, 3, api.Reply{Parts: someParts(8)}), begun(most, most),
	}
}

// sixteen are as many clients as there may be, in order.
func sixteen() []api.Last {
	l := crowd()
	for i := range 8 {
		l = append(l, []api.Last{begun(100+i, 1+i), done(100+i, 9, api.Reply{N: i})}[i%2])
	}
	slices.SortFunc(l, func(a, b api.Last) int { return a.Client - b.Client })
	return l
}

// chance is a row of numbers, always the same one, that look like chance.
type chance uint64

func (c *chance) below(n int) int {
	*c = *c*6364136223846793005 + 1442695040888963407
	return int(uint64(*c>>33) % uint64(n))
}

// shuffled are rows in another order.
func shuffled(c *chance, l []api.Last) []api.Last {
	l = slices.Clone(l)
	for i := range l {
		j := i + c.below(len(l)-i)
		l[i], l[j] = l[j], l[i]
	}
	return l
}

// tells tells where the rows of a table and its plain one differ.
func tells(t *testing.T, k *Table, p *plain) {
	t.Helper()
	if got, want := k.List(), p.list(); !sameRows(got, want) {
		t.Fatalf("List: %v, want %v", got, want)
	}
}

// asks tells where what a table and its plain one say of a request differs.
func asks(t *testing.T, k *Table, p *plain, client, n int) {
	t.Helper()
	what, r, e := k.Ask(client, n)
	wantWhat, wantR, wantE := p.ask(client, n)
	if what != wantWhat || !alike(r, wantR) || e != wantE {
		t.Fatalf("Ask(%d, %d): %d, %v, %d, want %d, %v, %d", client, n, what, r, e, wantWhat, wantR, wantE)
	}
}

// match tells where a table and its plain one differ, in all that asking tells.
func match(t *testing.T, k *Table, p *plain) {
	t.Helper()
	tells(t, k, p)
	near := numbers()
	for _, one := range p.l {
		near = append(near, one.Client-1, one.Client, one.Client+1)
	}
	for _, client := range near {
		ns := []int{0, 1, most, most + 1}
		if i := p.place(client); i >= 0 {
			ns = append(ns, p.l[i].N-1, p.l[i].N, p.l[i].N+1)
		}
		for _, n := range ns {
			asks(t, k, p, client, n)
		}
	}
	// Asking has changed nothing.
	tells(t, k, p)
}

func mustLoad(t *testing.T, l ...api.Last) (*Table, *plain) {
	t.Helper()
	k, e := Load(l)
	if e != api.OK || k == nil {
		t.Fatalf("Load(%v): %v, %d", l, k, e)
	}
	return k, &plain{ownAll(l)}
}

// begins begins a request, and tells where the answers differ, or what is there then.
func begins(t *testing.T, k *Table, p *plain, client, n int, want api.Errno) {
	t.Helper()
	e, plainE := k.Begin(client, n), p.begin(client, n)
	if e != want || plainE != want {
		t.Fatalf("Begin(%d, %d): %d, the plain one says %d, want %d", client, n, e, plainE, want)
	}
	tells(t, k, p)
}

// ends says that a request was done, and tells where the answers differ, or what is there then.
func ends(t *testing.T, k *Table, p *plain, client, n int, r api.Reply, want api.Errno) {
	t.Helper()
	e, plainE := k.Done(client, n, r), p.done(client, n, r)
	if e != want || plainE != want {
		t.Fatalf("Done(%d, %d, %v): %d, the plain one says %d, want %d", client, n, r, e, plainE, want)
	}
	tells(t, k, p)
}

// roomy is a list with room behind it, and the whole of it.
func roomy[T any](l []T, behind T) ([]T, []T) {
	whole := append(slices.Clone(l), behind, behind, behind)
	return whole[:len(l)], whole
}

// spoil fills a list, and the room behind it.
func spoil[T any](l []T, by T) {
	l = l[:cap(l)]
	for i := range l {
		l[i] = by
	}
}

// spoilReply fills a reply's lists, and the room behind them.
func spoilReply(r api.Reply) {
	spoil(r.Found, api.Found{Offset: 99, R: api.Record{Value: "spoilt"}})
	spoil(r.Parts, api.Part{Topic: "spoilt", N: 99})
}

// spoilRows fills rows, their replies' lists, and the room behind all.
func spoilRows(l []api.Last) {
	for _, one := range l {
		spoilReply(one.R)
	}
	spoil(l, done(99, 99, api.Reply{Gen: 99}))
}
