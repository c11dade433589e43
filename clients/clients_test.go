package clients

import (
	"math"
	"runtime"
	"slices"
	"strings"
	"testing"

	"stagecoach/api"
)

// The chapter's example.

func TestExample(t *testing.T) {
	k, r := New(), api.Reply{Offset: 7, Found: someFound(2), Parts: someParts(2)}
	if e := k.Begin(1, 5); e != api.OK {
		t.Errorf("Begin: %d", e)
	}
	if what, got, e := k.Ask(1, 5); what != Still || !none(got) || e != api.OK {
		t.Errorf("Ask: %d, %v, %d", what, got, e)
	}
	if e := k.Done(1, 5, r); e != api.OK {
		t.Errorf("Done: %d", e)
	}
	if what, got, e := k.Ask(1, 5); what != Again || !alike(got, r) || e != api.OK {
		t.Errorf("Ask of what was done: %d, %v, %d", what, got, e)
	}
	if what, got, e := k.Ask(1, 4); what != 0 || !none(got) || e != api.ErrClientsOld {
		t.Errorf("Ask of an older one: %d, %v, %d", what, got, e)
	}
	if what, got, e := k.Ask(1, 9); what != Fresh || !none(got) || e != api.OK {
		t.Errorf("Ask of a later one: %d, %v, %d", what, got, e)
	}
}

func TestNumbersOfTheChapter(t *testing.T) {
	if Fresh != 0 || Again != 1 || Still != 2 {
		t.Error("what a request is is not numbered as the chapter has it")
	}
	if api.ErrArg != 1 || api.ErrBig != 2 || api.ErrClientsOld != 150 || api.ErrClientsNone != 151 || api.MaxClients != 16 || api.MaxOffset != most {
		t.Error("errors and limits are not the chapter's")
	}
}

// P15.1

func TestNew(t *testing.T) {
	k, other := New(), New()
	match(t, k, &plain{})
	if l := k.List(); len(l) != 0 {
		t.Errorf("List: %v", l)
	}
	for _, client := range []int{1, 2, 1 << 32, most} {
		for _, n := range []int{1, 2, 1 << 32, most} {
			if what, r, e := k.Ask(client, n); what != Fresh || !none(r) || e != api.OK {
				t.Errorf("Ask(%d, %d): %d, %v, %d", client, n, what, r, e)
			}
			if e := k.Done(client, n, full()); e != api.ErrClientsNone {
				t.Errorf("Done(%d, %d): %d", client, n, e)
			}
		}
	}
	match(t, k, &plain{})
	// One does not hear of another one.
	p := &plain{}
	begins(t, k, p, 1, 5, api.OK)
	match(t, k, p)
	match(t, other, &plain{})
}

func TestAsk(t *testing.T) {
	k, p := mustLoad(t, begun(2, 5), done(4, 5, full()), done(6, 5, api.Reply{}), begun(7, 1), done(8, most, api.Reply{N: 3}), begun(most, most))
	for i, x := range []struct {
		client, n int
		what      int
		r         api.Reply
		e         api.Errno
	}{
		// Below, at and above the last one, that is not done.
		{2, 1, 0, api.Reply{}, api.ErrClientsOld},
		{2, 4, 0, api.Reply{}, api.ErrClientsOld},
		{2, 5, Still, api.Reply{}, api.OK},
		{2, 6, Fresh, api.Reply{}, api.OK},
		{2, most, Fresh, api.Reply{}, api.OK},
		// That was done, with a reply, and with none.
		{4, 1, 0, api.Reply{}, api.ErrClientsOld},
		{4, 4, 0, api.Reply{}, api.ErrClientsOld},
		{4, 5, Again, full(), api.OK},
		{4, 6, Fresh, api.Reply{}, api.OK},
		{4, most, Fresh, api.Reply{}, api.OK},
		{6, 4, 0, api.Reply{}, api.ErrClientsOld},
		{6, 5, Again, api.Reply{}, api.OK},
		{6, 6, Fresh, api.Reply{}, api.OK},
		// Of clients that are not remembered.
		{1, 1, Fresh, api.Reply{}, api.OK},
		{3, 4, Fresh, api.Reply{}, api.OK},
		{3, 5, Fresh, api.Reply{}, api.OK},
		{5, 4, Fresh, api.Reply{}, api.OK},
		{5, 5, Fresh, api.Reply{}, api.OK},
		{9, most, Fresh, api.Reply{}, api.OK},
		{1<<32 + 2, 4, Fresh, api.Reply{}, api.OK},
		{1<<32 + 4, 5, Fresh, api.Reply{}, api.OK},
		{most - 1, most, Fresh, api.Reply{}, api.OK},
		// At the edges.
		{7, 1, Still, api.Reply{}, api.OK},
		{7, 2, Fresh, api.Reply{}, api.OK},
		{8, most, Again, api.Reply{N: 3}, api.OK},
		{8, most - 1, 0, api.Reply{}, api.ErrClientsOld},
		{8, 1, 0, api.Reply{}, api.ErrClientsOld},
		{most, most, Still, api.Reply{}, api.OK},
		{most, 1, 0, api.Reply{}, api.ErrClientsOld},
		// No numbers, of clients that are remembered and of others.
		{0, 5, 0, api.Reply{}, api.ErrArg},
		{-1, 5, 0, api.Reply{}, api.ErrArg},
		{-4, 5, 0, api.Reply{}, api.ErrArg},
		{most + 1, 5, 0, api.Reply{}, api.ErrArg},
		{most + 4, 5, 0, api.Reply{}, api.ErrArg},
		{math.MinInt, 5, 0, api.Reply{}, api.ErrArg},
		{math.MaxInt, 5, 0, api.Reply{}, api.ErrArg},
		{4, 0, 0, api.Reply{}, api.ErrArg},
		{4, -1, 0, api.Reply{}, api.ErrArg},
		{4, -5, 0, api.Reply{}, api.ErrArg},
		{4, most + 1, 0, api.Reply{}, api.ErrArg},
		{4, most + 5, 0, api.Reply{}, api.ErrArg},
		{4, math.MinInt, 0, api.Reply{}, api.ErrArg},
		{4, math.MaxInt, 0, api.Reply{}, api.ErrArg},
		{8, 0, 0, api.Reply{}, api.ErrArg},
		{8, most + 1, 0, api.Reply{}, api.ErrArg},
		{3, 0, 0, api.Reply{}, api.ErrArg},
		{3, most + 1, 0, api.Reply{}, api.ErrArg},
		{0, 0, 0, api.Reply{}, api.ErrArg},
		{-1, most + 1, 0, api.Reply{}, api.ErrArg},
	} {
		// Twice, as the first time changes nothing.
		for range 2 {
			if what, r, e := k.Ask(x.client, x.n); what != x.what || !alike(r, x.r) || e != x.e {
				t.Errorf("%d: Ask(%d, %d): %d, %v, %d, want %d, %v, %d", i, x.client, x.n, what, r, e, x.what, x.r, x.e)
			}
			asks(t, k, p, x.client, x.n)
		}
	}
	match(t, k, p)
}

// P15.2

func TestBeginRefuses(t *testing.T) {
	for _, l := range [][]api.Last{nil, crowd(), sixteen()} {
		k, p := mustLoad(t, l...)
		for _, bad := range badNumbers() {
			for _, n := range append(numbers(), 5, 7) {
				// Twice, as the first time changes nothing.
				for range 2 {
					begins(t, k, p, bad, n, api.ErrArg)
					begins(t, k, p, n, bad, api.ErrArg)
				}
			}
		}
		for _, one := range l {
			for _, n := range []int{1, 2, one.N / 2, one.N - 1} {
				if isNumber(n) && n < one.N {
					begins(t, k, p, one.Client, n, api.ErrClientsOld)
					begins(t, k, p, one.Client, n, api.ErrClientsOld)
				}
			}
		}
		match(t, k, p)
		if got := k.List(); !sameRows(got, l) {
			t.Errorf("List: %v, want %v", got, l)
		}
	}
}

// Of a request that is Still or Again nothing changes: its reply stays.
func TestBeginOfOneThatIsThere(t *testing.T) {
	for _, l := range [][]api.Last{crowd(), sixteen()} {
		k, p := mustLoad(t, l...)
		for range 2 {
			for _, one := range l {
				begins(t, k, p, one.Client, one.N, api.OK)
				what, r, e := k.Ask(one.Client, one.N)
				want := Still
				if one.Done {
					want = Again
				}
				if what != want || !alike(r, one.R) || e != api.OK {
					t.Errorf("%v: %d, %v, %d", one, what, r, e)
				}
			}
		}
		if got := k.List(); !sameRows(got, l) {
			t.Errorf("List: %v, want %v", got, l)
		}
	}
}

// A further one puts an end to the earlier one and its reply, and to nobody else's.
func TestBeginOfAFurtherOne(t *testing.T) {
	for i, one := range []api.Last{begun(5, 7), done(5, 7, full()), done(5, 7, api.Reply{}), begun(5, 1), done(5, most-1, full())} {
		for _, n := range []int{one.N + 1, one.N + 2, most} {
			if n <= one.N || n > most {
				continue
			}
			k, p := mustLoad(t, begun(4, 7), one, done(6, 7, full()))
			begins(t, k, p, 5, n, api.OK)
			match(t, k, p)
			if what, r, e := k.Ask(5, n); what != Still || !none(r) || e != api.OK {
				t.Errorf("%d: Ask of the further one: %d, %v, %d", i, what, r, e)
			}
			if what, r, e := k.Ask(5, one.N); what != 0 || !none(r) || e != api.ErrClientsOld {
				t.Errorf("%d: Ask of the earlier one: %d, %v, %d", i, what, r, e)
			}
			if e := k.Done(5, one.N, full()); e != api.ErrClientsOld {
				t.Errorf("%d: Done of the earlier one: %d", i, e)
			}
			if e := k.Begin(5, one.N); e != api.ErrClientsOld {
				t.Errorf("%d: Begin of the earlier one: %d", i, e)
			}
			if got, want := k.List(), []api.Last{begun(4, 7), begun(5, n), done(6, 7, full())}; !sameRows(got, want) {
				t.Errorf("%d: List: %v, want %v", i, got, want)
			}
			ends(t, k, p, 5, n, api.Reply{N: 2}, api.OK)
			match(t, k, p)
		}
	}
}

// There are 16 clients at most, be their requests done or not; who is among them goes on.
func TestBeginOfManyClients(t *testing.T) {
	k, p := New(), &plain{}
	for i := range 16 {
		begins(t, k, p, 3*(16-i), 5, api.OK)
		if i%3 == 0 {
			ends(t, k, p, 3*(16-i), 5, full(), api.OK)
		}
		match(t, k, p)
	}
	for _, client := range []int{1, 2, 4, 47, 49, 1 << 32, 1<<32 + 3, most} {
		if what, r, e := k.Ask(client, 5); what != Fresh || !none(r) || e != api.OK {
			t.Errorf("Ask(%d, 5): %d, %v, %d", client, what, r, e)
		}
		for range 2 {
			begins(t, k, p, client, 5, api.ErrBig)
			begins(t, k, p, client, 1, api.ErrBig)
			begins(t, k, p, client, most, api.ErrBig)
			ends(t, k, p, client, 5, full(), api.ErrClientsNone)
		}
	}
	match(t, k, p)
	// Where two errors fit, that it is no number is told.
	for _, bad := range badNumbers() {
		begins(t, k, p, bad, 5, api.ErrArg)
		begins(t, k, p, 1, bad, api.ErrArg)
	}
	for i := range 16 {
		begins(t, k, p, 3*(16-i), 4, api.ErrClientsOld)
		begins(t, k, p, 3*(16-i), 5, api.OK)
		begins(t, k, p, 3*(16-i), 6+i, api.OK)
		ends(t, k, p, 3*(16-i), 6+i, api.Reply{Offset: i}, api.OK)
		begins(t, k, p, 1, 5, api.ErrBig)
	}
	match(t, k, p)
	if l := k.List(); len(l) != 16 {
		t.Errorf("List: %v", l)
	}
}

func TestDone(t *testing.T) {
	for i, x := range []struct {
		client, n int
		e         api.Errno
	}{
		// The last one, that is not done, that was done, that was done with none.
		{2, 5, api.OK},
		{4, 5, api.OK},
		{6, 5, api.OK},
		{7, 1, api.OK},
		{8, most, api.OK},
		{most, most, api.OK},
		// An older and a later one.
		{2, 4, api.ErrClientsOld},
		{2, 1, api.ErrClientsOld},
		{2, 6, api.ErrClientsOld},
		{2, most, api.ErrClientsOld},
		{4, 4, api.ErrClientsOld},
		{4, 6, api.ErrClientsOld},
		{4, 1<<32 + 5, api.ErrClientsOld},
		{6, 4, api.ErrClientsOld},
		{6, 6, api.ErrClientsOld},
		{7, 2, api.ErrClientsOld},
		{8, most - 1, api.ErrClientsOld},
		// Of clients that are not remembered.
		{1, 1, api.ErrClientsNone},
		{3, 5, api.ErrClientsNone},
		{5, 5, api.ErrClientsNone},
		{9, most, api.ErrClientsNone},
		{1<<32 + 2, 5, api.ErrClientsNone},
		{most - 1, most, api.ErrClientsNone},
		// Of no numbers.
		{0, 5, api.ErrArg},
		{-1, 5, api.ErrArg},
		{most + 1, 5, api.ErrArg},
		{most + 2, 5, api.ErrArg},
		{math.MinInt, 5, api.ErrArg},
		{math.MaxInt, 5, api.ErrArg},
		{2, 0, api.ErrArg},
		{2, -1, api.ErrArg},
		{2, most + 1, api.ErrArg},
		{8, most + 1, api.ErrArg},
		{2, math.MinInt, api.ErrArg},
		{2, math.MaxInt, api.ErrArg},
		{3, 0, api.ErrArg},
		{3, most + 1, api.ErrArg},
		{0, 0, api.ErrArg},
		{-1, most + 1, api.ErrArg},
	} {
		for _, r := range []api.Reply{{}, full(), {N: 1}, {Offset: 3, Found: someFound(1)}} {
			l := []api.Last{begun(2, 5), done(4, 5, api.Reply{Offset: 3, Gen: 4, Found: someFound(2), Parts: someParts(1)}), done(6, 5, api.Reply{}), begun(7, 1), done(8, most, api.Reply{N: 3}), begun(most, most)}
			k, p := mustLoad(t, l...)
			// Twice: an error changes nothing, and the second time it has that reply already.
			for range 2 {
				ends(t, k, p, x.client, x.n, r, x.e)
			}
			match(t, k, p)
			if x.e != api.OK {
				if got := k.List(); !sameRows(got, l) {
					t.Errorf("%d: List: %v, want %v", i, got, l)
				}
				continue
			}
			if what, got, e := k.Ask(x.client, x.n); what != Again || !alike(got, r) || e != api.OK {
				t.Errorf("%d: Ask: %d, %v, %d, want %v", i, what, got, e, r)
			}
		}
	}
}

// Each reply takes the place of the one that was there, all of it.
func TestDoneWithAnotherReply(t *testing.T) {
	k, p := mustLoad(t, done(1, 5, full()), begun(2, 5), done(3, 5, full()))
	replies := append(rightReplies(), wrongReplies()...)
	for i, r := range replies {
		ends(t, k, p, 2, 5, r, api.OK)
		if what, got, e := k.Ask(2, 5); what != Again || !alike(got, r) || e != api.OK {
			t.Errorf("%d: Ask: %d, %v, %d, want %v", i, what, got, e, r)
		}
		// And in the place of the greatest one.
		ends(t, k, p, 2, 5, api.Reply{E: 1, Offset: 1, N: 1, Gen: 1, Found: someFound(64), Parts: someParts(64)}, api.OK)
		ends(t, k, p, 2, 5, r, api.OK)
	}
	match(t, k, p)
}

// Where two errors fit, the one that is named first is told.
func TestWhichErrorComesFirst(t *testing.T) {
	for _, l := range [][]api.Last{nil, {begun(2, 5)}, crowd(), sixteen()} {
		k, p := mustLoad(t, l...)
		for _, bad := range badNumbers() {
			for _, other := range append(numbers(), 4, 5, 6) {
				for _, r := range []api.Reply{{}, full(), {N: -1}} {
					ends(t, k, p, bad, other, r, api.ErrArg)
					ends(t, k, p, other, bad, r, api.ErrArg)
				}
			}
		}
		match(t, k, p)
	}
}

// P15.3

func TestList(t *testing.T) {
	for _, want := range [][]api.Last{
		nil,
		{begun(1, 1)},
		{done(1, 1, api.Reply{})},
		{done(most, most, full())},
		{begun(2, 9), begun(10, 3)},
		{done(1, 1, full()), begun(2, 1), done(3, 1, api.Reply{})},
		{begun(1<<31, 1), begun(1<<32, 1), begun(1<<32+1, 1)},
		crowd(), sixteen(), sixteen()[:15],
	} {
		for seed := range 5 {
			c := chance(seed)
			k, p := New(), &plain{}
			for _, one := range shuffled(&c, want) {
				begins(t, k, p, one.Client, one.N, api.OK)
				if one.Done {
					ends(t, k, p, one.Client, one.N, one.R, api.OK)
				}
			}
			// The same again, however the map is gone through.
			for range 5 {
				if got := k.List(); !sameRows(got, want) {
					t.Fatalf("List: %v, want %v", got, want)
				}
			}
			match(t, k, p)
		}
	}
}

// What stands beside a request that is not done is none, even if one was done ahead of it.
func TestListOfWhatIsNotDone(t *testing.T) {
	k := New()
	for n := 1; n < 100; n++ {
		k.Begin(1, n)
		if l := k.List(); len(l) != 1 || l[0].Done || !none(l[0].R) || l[0].N != n {
			t.Fatalf("List: %v", l)
		}
		k.Done(1, n, full())
		if l := k.List(); len(l) != 1 || !l[0].Done || !alike(l[0].R, full()) || l[0].N != n {
			t.Fatalf("List: %v", l)
		}
	}
}

// steps are what may be done to a table.
func steps() map[string]func(k *Table, p *plain) {
	begin := func(client, n int) func(k *Table, p *plain) {
		return func(k *Table, p *plain) { k.Begin(client, n); p.begin(client, n) }
	}
	end := func(client, n int, r api.Reply) func(k *Table, p *plain) {
		return func(k *Table, p *plain) { k.Done(client, n, r); p.done(client, n, r) }
	}
	both := func(l ...func(k *Table, p *plain)) func(k *Table, p *plain) {
		return func(k *Table, p *plain) {
			for _, step := range l {
				step(k, p)
			}
		}
	}
	return map[string]func(k *Table, p *plain){
		"nothing":     func(*Table, *plain) {},
		"a new":       begin(4, 3),
		"a new, done": both(begin(4, 3), end(4, 3, full())),
		"a further":   begin(2, 6),
		"done":        end(1, 5, full()),
		"done again":  end(2, 5, api.Reply{Gen: 4, Found: someFound(5)}),
		"old":         both(begin(2, 4), end(2, 4, full())),
		"no number":   both(begin(0, 4), end(2, most+1, full())),
		"many": func(k *Table, p *plain) {
			for i := range 16 {
				both(begin(20+i, 5), end(20+i, 5, api.Reply{N: i}))(k, p)
			}
		},
	}
}

// A copy tells what its original tells, and each goes its own way.
func TestCopy(t *testing.T) {
	for name, step := range steps() {
		for other, otherStep := range steps() {
			for _, l := range [][]api.Last{nil, crowd()} {
				k, p := mustLoad(t, l...)
				c, q := k.Copy(), p.copy()
				if c == k {
					t.Fatal("it is the same one")
				}
				match(t, c, q)
				step(c, q)
				match(t, c, q)
				match(t, k, p)
				otherStep(k, p)
				match(t, k, p)
				match(t, c, q)
				// A copy of a copy.
				d, s := c.Copy(), q.copy()
				otherStep(d, s)
				tells(t, d, s)
				tells(t, c, q)
				step(c, q)
				tells(t, c, q)
				tells(t, d, s)
				tells(t, k, p)
				if t.Failed() {
					t.Fatalf("%s, and %s", name, other)
				}
			}
		}
	}
	k := New()
	c := k.Copy()
	p, q := &plain{}, &plain{}
	begins(t, c, q, 1, 5, api.OK)
	match(t, k, p)
	begins(t, k, p, 1, 2, api.OK)
	match(t, c, q)
	match(t, k, p)
}

func TestLoad(t *testing.T) {
	for i, l := range [][]api.Last{
		nil,
		{},
		{begun(1, 1)},
		{begun(most, most)},
		{done(1, most, api.Reply{})},
		{done(most, 1, full())},
		{begun(2, 9), begun(10, 3)},
		{begun(1, 5), begun(2, 5), begun(3, 5)},
		{{Client: 1, N: 1, R: api.Reply{Found: []api.Found{}, Parts: []api.Part{}}}},
		crowd(), sixteen()[:15], sixteen(),
	} {
		for name, step := range steps() {
			k, p := mustLoad(t, l...)
			if got := k.List(); !sameRows(got, l) {
				t.Errorf("%d: List: %v, want %v", i, got, l)
			}
			step(k, p)
			match(t, k, p)
			if t.Failed() {
				t.Fatal(name)
			}
		}
	}
}

// Each kind of reply that may be is loaded as it is.
func TestLoadOfReplies(t *testing.T) {
	for _, r := range rightReplies() {
		for _, l := range [][]api.Last{{done(3, 5, r)}, {begun(1, 1), done(3, 5, r), done(4, 1, full())}} {
			k, p := mustLoad(t, l...)
			match(t, k, p)
			if what, got, e := k.Ask(3, 5); what != Again || !alike(got, r) || e != api.OK {
				t.Errorf("%v: %d, %v, %d", r, what, got, e)
			}
		}
	}
}

// refused tells where rows are not refused by an error, or changed.
func refused(t *testing.T, l []api.Last, want api.Errno) {
	t.Helper()
	was := ownAll(l)
	if k, e := Load(l); k != nil || e != want {
		t.Errorf("Load(%v): %v, %d, want %d", l, k, e, want)
	}
	if !sameRows(l, was) {
		t.Errorf("Load made it into %v", l)
	}
}

// wrongRows may not be, each for one thing.
func wrongRows() []api.Last {
	var l []api.Last
	for _, bad := range badNumbers() {
		l = append(l, begun(bad, 5), begun(50, bad), done(bad, 5, full()), done(50, bad, api.Reply{}), begun(bad, bad))
	}
	for _, r := range wrongReplies() {
		l = append(l, done(50, 5, r), api.Last{Client: 50, N: 5, R: r})
	}
	// A reply beside a request that was not done, be it one that may be.
	for _, r := range rightReplies() {
		if !none(r) {
			l = append(l, api.Last{Client: 50, N: 5, R: r})
		}
	}
	for _, r := range []api.Reply{{E: -1}, {E: 1}, {Offset: 1}, {N: 1}, {N: -1}, {Gen: 1}, {Found: someFound(1)}, {Parts: someParts(1)}} {
		l = append(l, api.Last{Client: 50, N: 5, R: r})
	}
	return append(l, api.Last{}, api.Last{Done: true})
}

func TestLoadRefuses(t *testing.T) {
	low, high := begun(1, 5), done(most, 5, full())
	for _, one := range wrongRows() {
		// Alone, first, last, in the midst, twice.
		for _, l := range [][]api.Last{{one}, {one, high}, {low, one}, {low, one, high}, {one, one}} {
			refused(t, l, api.ErrArg)
		}
		l := sixteen()
		l[11] = one
		refused(t, l, api.ErrArg)
	}
}

func TestLoadOfNoOrder(t *testing.T) {
	a, b := done(7, 5, full()), begun(8, 5)
	for _, pair := range [][2]api.Last{
		{b, a}, {a, a}, {b, b}, {a, begun(7, 6)}, {a, begun(7, 4)}, {begun(7, 5), a}, {begun(10, 1), begun(9, 1)}, {begun(10, 1), begun(2, 9)}, {begun(1<<32, 1), begun(1, 1)}, {begun(1<<32, 1), a}, {begun(most, 1), begun(most-1, 1)}, {begun(most, 1), begun(most, 1)},
	} {
		for _, l := range [][]api.Last{{pair[0], pair[1]}, {begun(1, 1), pair[0], pair[1]}, {pair[0], pair[1], begun(most, most)}} {
			refused(t, l, api.ErrArg)
		}
	}
	l := sixteen()
	slices.Reverse(l)
	refused(t, l, api.ErrArg)
	for i := range sixteen() {
		for j := range i {
			l := sixteen()
			l[i], l[j] = l[j], l[i]
			refused(t, l, api.ErrArg)
			l = sixteen()
			l[i] = l[j]
			refused(t, l, api.ErrArg)
		}
	}
}

// More than 16 rows are told first, whatever else is so.
func TestLoadOfTooMany(t *testing.T) {
	refused(t, make([]api.Last, 16), api.ErrArg)
	for _, n := range []int{17, 18, 100, 1000} {
		refused(t, make([]api.Last, n), api.ErrBig)
		var l []api.Last
		for i := range n {
			l = append(l, done(1+i, 1, full()))
		}
		refused(t, l, api.ErrBig)
		mustLoad(t, l[:16]...)
		for _, one := range wrongRows() {
			for _, i := range []int{0, 15, 16, n - 1} {
				m := slices.Clone(l)
				m[i] = one
				refused(t, m, api.ErrBig)
			}
		}
		slices.Reverse(l)
		refused(t, l, api.ErrBig)
		refused(t, l[:16], api.ErrArg)
	}
}

// P15.4

// walk does one thing, drawn by chance, to a table and its plain one, and tells where their answers differ.
func walk(t *testing.T, c *chance, k *Table, p *plain) {
	t.Helper()
	client, n := 1+c.below(20), 1+c.below(30)
	if i := p.place(client); i >= 0 && c.below(2) == 0 {
		n = p.l[i].N + c.below(3) - 1
	}
	if c.below(20) == 0 {
		client = numbers()[c.below(len(numbers()))]
	}
	if c.below(20) == 0 {
		n = numbers()[c.below(len(numbers()))]
	}
	asks(t, k, p, client, n)
	if c.below(2) == 0 {
		if got, want := k.Begin(client, n), p.begin(client, n); got != want {
			t.Fatalf("Begin(%d, %d): %d, want %d", client, n, got, want)
		}
		return
	}
	r := rightReplies()[c.below(len(rightReplies()))]
	if got, want := k.Done(client, n, r), p.done(client, n, r); got != want {
		t.Fatalf("Done(%d, %d): %d, want %d", client, n, got, want)
	}
}

// Whatever happens, what was done is told again as long as its client asks nothing further, and a number that was begun is Fresh no more.
func TestAnythingInAnyOrder(t *testing.T) {
	for seed := range 30 {
		c := chance(seed)
		k, p := New(), &plain{}
		for range 400 {
			was := k.List()
			walk(t, &c, k, p)
			tells(t, k, p)
			for _, one := range was {
				what, _, e := k.Ask(one.Client, one.N)
				if e == api.OK && what == Fresh || e != api.OK && e != api.ErrClientsOld {
					t.Fatalf("%d: %v is %d, %d", seed, one, what, e)
				}
				if what == Still && one.Done {
					t.Fatalf("%d: %v was done, and is not", seed, one)
				}
			}
			switch c.below(20) {
			case 0:
				k = k.Copy()
			case 1:
				again, e := Load(k.List())
				if e != api.OK {
					t.Fatalf("%d: Load of what was told: %d", seed, e)
				}
				match(t, again, p)
				k = again
			}
		}
		match(t, k, p)
	}
}

// A request's whole way: whatever others do, its reply is told again, till its client asks further; it is never Fresh again.
func TestOnceDoneToldAgain(t *testing.T) {
	k := New()
	for n := 2; n < 60; n += 1 + n%3 {
		for client := 1; client <= 16; client++ {
			if what, r, e := k.Ask(client, n); what != Fresh || !none(r) || e != api.OK {
				t.Fatalf("Ask(%d, %d): %d, %v, %d", client, n, what, r, e)
			}
			if e := k.Begin(client, n); e != api.OK {
				t.Fatalf("Begin(%d, %d): %d", client, n, e)
			}
			if what, r, e := k.Ask(client, n); what != Still || !none(r) || e != api.OK {
				t.Fatalf("Ask(%d, %d) of what is begun: %d, %v, %d", client, n, what, r, e)
			}
			want := api.Reply{Offset: n, Gen: client, Found: someFound(n % 5), Parts: someParts(client % 4)}
			if e := k.Done(client, n, want); e != api.OK {
				t.Fatalf("Done(%d, %d): %d", client, n, e)
			}
			for range 3 {
				if what, r, e := k.Ask(client, n); what != Again || !alike(r, want) || e != api.OK {
					t.Fatalf("Ask(%d, %d) of what was done: %d, %v, %d", client, n, what, r, e)
				}
				// Asked again by Begin, it is not begun again.
				if e := k.Begin(client, n); e != api.OK {
					t.Fatalf("Begin(%d, %d) again: %d", client, n, e)
				}
				// Who only asks for a further one has not begun it.
				k.Ask(client, n+5)
			}
		}
		for client := 1; client <= 16; client++ {
			if what, r, e := k.Ask(client, n); what != Again || r.Offset != n || r.Gen != client || e != api.OK {
				t.Fatalf("Ask(%d, %d) later: %d, %v, %d", client, n, what, r, e)
			}
			for old := 1; old < n; old++ {
				if what, r, e := k.Ask(client, old); what != 0 || !none(r) || e != api.ErrClientsOld {
					t.Fatalf("Ask(%d, %d) of an old one: %d, %v, %d", client, old, what, r, e)
				}
			}
		}
	}
}

func TestWhatIsToldIsLoaded(t *testing.T) {
	for name, step := range steps() {
		for _, l := range [][]api.Last{nil, crowd(), sixteen()} {
			k, p := mustLoad(t, l...)
			step(k, p)
			again, e := Load(k.List())
			if e != api.OK || again == nil {
				t.Fatalf("%s: Load: %d", name, e)
			}
			match(t, again, p)
			for _, otherStep := range steps() {
				one, q := again.Copy(), p.copy()
				otherStep(one, q)
				match(t, one, q)
			}
		}
	}
}

// R1

// Whatever is handed in, there is an answer, and the right one.
func TestAnythingIsAnswered(t *testing.T) {
	for _, l := range [][]api.Last{nil, crowd(), sixteen()} {
		for _, client := range numbers() {
			k, p := mustLoad(t, l...)
			for _, n := range numbers() {
				for _, r := range append(wrongReplies(), full(), api.Reply{}) {
					asks(t, k, p, client, n)
					if got, want := k.Done(client, n, r), p.done(client, n, r); got != want {
						t.Fatalf("Done(%d, %d, %v): %d, want %d", client, n, r, got, want)
					}
					if got, want := k.Begin(client, n), p.begin(client, n); got != want {
						t.Fatalf("Begin(%d, %d): %d, want %d", client, n, got, want)
					}
				}
			}
			match(t, k, p)
			match(t, k.Copy(), p)
		}
	}
}

// A reply that may not be is taken by Done, of which the chapter names no error for it, and told; only Load refuses it.
func TestDoneTakesAnyReply(t *testing.T) {
	for _, r := range wrongReplies() {
		k, p := mustLoad(t, begun(1, 5))
		ends(t, k, p, 1, 5, r, api.OK)
		match(t, k, p)
		match(t, k.Copy(), p)
		refused(t, k.List(), api.ErrArg)
	}
}

// R4

// What Load is handed in stays as it was, room and all, and may be spoilt afterwards.
func TestLoadKeepsNothing(t *testing.T) {
	for n := range len(sixteen()) + 1 {
		for _, fault := range []int{-1, n - 1} {
			rows := sixteen()[:n]
			var founds [][]api.Found
			var parts [][]api.Part
			for i := range rows {
				found, wholeFound := roomy(rows[i].R.Found, api.Found{Offset: 77})
				part, wholePart := roomy(rows[i].R.Parts, api.Part{Topic: "room"})
				rows[i].R.Found, rows[i].R.Parts = found, part
				founds, parts = append(founds, wholeFound), append(parts, wholePart)
			}
			l, whole := roomy(rows, begun(77, 77))
			want := api.OK
			if fault >= 0 {
				l[fault].N = -1
				want = api.ErrArg
			}
			was, p := ownAll(whole), &plain{ownAll(l)}
			k, e := Load(l)
			if e != want {
				t.Fatalf("Load of %d: %d, want %d", n, e, want)
			}
			if !sameRows(whole, was) {
				t.Fatalf("Load made it into %v", whole)
			}
			for i := range founds {
				if room := founds[i][len(founds[i])-3:]; !slices.Equal(room, []api.Found{{Offset: 77}, {Offset: 77}, {Offset: 77}}) {
					t.Fatalf("Load made the room into %v", room)
				}
				if room := parts[i][len(parts[i])-3:]; !slices.Equal(room, []api.Part{{Topic: "room"}, {Topic: "room"}, {Topic: "room"}}) {
					t.Fatalf("Load made the room into %v", room)
				}
			}
			if e != api.OK {
				continue
			}
			for _, step := range steps() {
				one, q := k.Copy(), p.copy()
				step(one, q)
				if !sameRows(whole, was) {
					t.Fatalf("it is made into %v", whole)
				}
			}
			spoilRows(l)
			match(t, k, p)
		}
	}
}

// So does what Done is handed in.
func TestDoneKeepsNothing(t *testing.T) {
	for _, n := range []int{5, 6, 0} {
		found, wholeFound := roomy(someFound(5), api.Found{Offset: 77})
		parts, wholeParts := roomy(someParts(3), api.Part{Topic: "room"})
		r := api.Reply{N: 3, Found: found, Parts: parts}
		wasFound, wasParts := slices.Clone(wholeFound), slices.Clone(wholeParts)
		k, p := mustLoad(t, begun(1, 5), done(2, 5, full()))
		if got, want := k.Done(1, n, r), p.done(1, n, r); got != want {
			t.Fatalf("Done: %d, want %d", got, want)
		}
		if got, want := k.Done(2, n, r), p.done(2, n, r); got != want {
			t.Fatalf("Done: %d, want %d", got, want)
		}
		c, q := k.Copy(), p.copy()
		k.Begin(1, 9)
		p.begin(1, 9)
		k.Done(2, 5, api.Reply{Found: someFound(2)})
		p.done(2, 5, api.Reply{Found: someFound(2)})
		if !slices.Equal(wholeFound, wasFound) || !slices.Equal(wholeParts, wasParts) {
			t.Fatalf("it is made into %v, %v", wholeFound, wholeParts)
		}
		spoilReply(r)
		match(t, k, p)
		match(t, c, q)
	}
}

// What is told is its owner's: spoilt, room and all, it changes nothing that is told then, and what is done then does not change it.
func TestWhatIsToldIsItsOwners(t *testing.T) {
	for name, step := range steps() {
		k, p := mustLoad(t, crowd()...)
		c, q := k.Copy(), p.copy()
		l, other := k.List(), k.List()
		_, r, _ := k.Ask(2, 5)
		_, otherR, _ := k.Ask(2, 5)
		spoilRows(append(l, begun(88, 88)))
		spoilRows(l)
		spoilReply(api.Reply{Found: append(r.Found, api.Found{Offset: 88}), Parts: append(r.Parts, api.Part{Topic: "more"})})
		spoilReply(r)
		if !sameRows(other, crowd()) || !alike(otherR, full()) {
			t.Fatalf("%s: the others are %v, %v", name, other, otherR)
		}
		match(t, k, p)
		match(t, c, q)
		step(k, p)
		if !sameRows(other, crowd()) || !alike(otherR, full()) {
			t.Fatalf("%s: what was told is now %v, %v", name, other, otherR)
		}
		match(t, k, p)
		match(t, c, q)
	}
}

// No two lists of one answer share room: to spoil one, room and all, spoils no other one.
func TestListsOfOneAnswerShareNothing(t *testing.T) {
	rows := func() []api.Last {
		var l []api.Last
		for i := range 16 {
			l = append(l, done(1+i, 5, api.Reply{N: i, Found: someFound(i), Parts: someParts(16 - i)}))
		}
		return l
	}
	k, _ := mustLoad(t, rows()...)
	for i := range 16 {
		l := k.List()
		spoil(l[i].R.Found, api.Found{Offset: 99})
		if !slices.Equal(l[i].R.Parts, someParts(16-i)) {
			t.Fatalf("the parts beside it are %v", l[i].R.Parts)
		}
		spoil(l[i].R.Parts, api.Part{Topic: "spoilt"})
		l[i] = rows()[i]
		if !sameRows(l, rows()) {
			t.Fatalf("to spoil %d made it all into %v", i, l)
		}
	}
}

// R5

// What is told hangs on what clients asked last, not on the order in which they came.
func TestAnswersHangOnNothingElse(t *testing.T) {
	c := chance(5)
	for range 20 {
		k, p := New(), &plain{}
		for _, one := range shuffled(&c, sixteen()) {
			// By ways of its own: at once, or behind another one.
			if one.N > 1 && c.below(2) == 0 {
				begins(t, k, p, one.Client, one.N/2, api.OK)
				if c.below(2) == 0 {
					ends(t, k, p, one.Client, one.N/2, full(), api.OK)
				}
			}
			begins(t, k, p, one.Client, one.N, api.OK)
			if one.Done {
				ends(t, k, p, one.Client, one.N, one.R, api.OK)
			}
		}
		if got := k.List(); !sameRows(got, sixteen()) {
			t.Fatalf("List: %v", got)
		}
		match(t, k, &plain{sixteen()})
	}
}

// heldBytes is how much memory is in use.
func heldBytes() int64 {
	runtime.GC()
	var m runtime.MemStats
	runtime.ReadMemStats(&m)
	return int64(m.HeapAlloc)
}

// Texts that are pieces of great ones are handed in, and lists with room: they are not kept.
func TestGreatThingsAreNotKept(t *testing.T) {
	const great, n = 1 << 20, 20
	piece := func(i int) string { return strings.Repeat("x", great)[i : i+9] }
	key := func(i int) api.Reply {
		return api.Reply{Found: []api.Found{{R: api.Record{HasKey: true, Key: piece(i)}}}}
	}
	value := func(i int) api.Reply { return api.Reply{Found: []api.Found{{R: api.Record{Value: piece(i)}}}} }
	topic := func(i int) api.Reply { return api.Reply{Parts: []api.Part{{Topic: piece(i)}}} }
	ways := map[string]func(int) api.Reply{
		"key": key, "value": value, "topic": topic,
		"room of found": func(int) api.Reply { return api.Reply{Found: make([]api.Found, 1, great/64)} },
		"room of parts": func(int) api.Reply {
			return api.Reply{Parts: append(make([]api.Part, 0, great/24), api.Part{Topic: "t"})}
		},
		"room of none": func(int) api.Reply {
			return api.Reply{Found: make([]api.Found, 0, great/64), Parts: make([]api.Part, 0, great/24)}
		},
	}
	for name, reply := range ways {
		for how, one := range map[string]func(i int) any{
			"Done": func(i int) any { k := New(); k.Begin(1, 5); k.Done(1, 5, reply(i)); return k },
			"Done again": func(i int) any {
				k := New()
				k.Begin(1, 5)
				k.Done(1, 5, reply(i))
				k.Done(1, 5, reply(i+1))
				return k
			},
			"Load": func(i int) any {
				k, e := Load([]api.Last{done(1, 5, reply(i))})
				if e != api.OK {
					t.Fatalf("%s: Load: %d", name, e)
				}
				return k
			},
			"Load of none": func(i int) any { k, _ := Load(make([]api.Last, 0, great/128)); return k },
			"refused":      func(i int) any { k := New(); k.Done(1, 5, reply(i)); return k },
			"List": func(i int) any {
				k := New()
				k.Begin(1, 5)
				k.Done(1, 5, reply(i))
				return k.List()
			},
		} {
			before := heldBytes()
			var kept []any
			for i := range n {
				kept = append(kept, one(i))
			}
			if more := heldBytes() - before; more > great {
				t.Errorf("%s, %s: %d bytes are kept", how, name, more)
			}
			runtime.KeepAlive(kept)
		}
	}
}

// Earlier requests' replies are not kept.
func TestWhatWentIsNotKept(t *testing.T) {
	k := New()
	great := api.Reply{Found: someFound(64)}
	for i := range great.Found {
		great.Found[i].R = api.Record{Value: strings.Repeat("v", 512)}
	}
	before := heldBytes()
	for n := 1; n <= 2000; n++ {
		for client := 1; client <= 16; client++ {
			k.Begin(client, n)
			if n < 2000 {
				k.Done(client, n, great)
			}
		}
	}
	if more := heldBytes() - before; more > 100000 {
		t.Errorf("%d bytes are kept of many replies", more)
	}
	if l := k.List(); len(l) != 16 || l[15].Done || l[15].N != 2000 {
		t.Errorf("List: %v", l)
	}
}
