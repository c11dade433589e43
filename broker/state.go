package broker

import (
	"strings"

	"stagecoach/api"
	"stagecoach/dedup"
	"stagecoach/group"
	"stagecoach/offsets"
	"stagecoach/plog"
	"stagecoach/request"
	"stagecoach/topics"
)

// State is all that a broker has.
func (b *Broker) State() api.State {
	s := api.State{
		Room:   b.room,
		Now:    b.now,
		Topics: b.catalog.List(),
		Epochs: b.makers.Epochs(),
		Makers: b.makers.Makers(),
		Marks:  b.marks.List(),
	}
	for _, p := range b.parts() {
		s.Logs = append(s.Logs, api.Logged{Part: p, Segs: b.logs[p].Segs()})
	}
	for _, name := range b.names() {
		g := b.groups[name]
		one := api.Grouped{Name: name, Seats: g.Seats()}
		one.Gen, one.Robin = g.Gen()
		s.Groups = append(s.Groups, one)
	}
	return s
}

// parts are all partitions, in order.
func (b *Broker) parts() []api.Part {
	var names []string
	for _, t := range b.catalog.List() {
		names = append(names, t.Name)
	}
	return b.catalog.Parts(names)
}

// Copy is another broker in the same state.
func (b *Broker) Copy() *Broker {
	c := &Broker{
		room:    b.room,
		now:     b.now,
		catalog: b.catalog.Copy(),
		logs:    map[api.Part]*plog.Log{},
		makers:  b.makers.Copy(),
		groups:  map[string]*group.Group{},
		marks:   b.marks.Copy(),
	}
	for p, g := range b.logs {
		c.logs[p] = g.Copy()
	}
	for name, g := range b.groups {
		c.groups[name] = g.Copy()
	}
	return c
}

// loaded is a state that was told, and the broker that comes to be in it.
type loaded struct {
	*Broker
	told api.State
}

// Load is a broker in a state that was told by another one.
func Load(s api.State) (*Broker, api.Errno) {
	b, e := New(s.Room)
	if e != api.OK || s.Now < 0 || s.Now > api.MaxOffset {
		return nil, api.ErrBrokerForm
	}
	b.now = s.Now
	l := loaded{b, s}
	// The topics come first, as they tell which partitions there are.
	if !l.takeTopics() || !l.takeLogs() || !l.takeMakers() || !l.takeGroups() || !l.takeMarks() {
		return nil, api.ErrBrokerForm
	}
	return b, api.OK
}

// takeTopics takes the topics over, and tells whether they may be; those below do so with what they are named for.
func (l loaded) takeTopics() bool {
	c, e := topics.Load(l.told.Topics)
	if e != api.OK {
		return false
	}
	l.catalog = c
	return true
}

func (l loaded) takeLogs() bool {
	parts := l.parts()
	if len(l.told.Logs) != len(parts) {
		return false
	}
	for i, one := range l.told.Logs {
		g, e := plog.Load(l.room, one.Segs)
		if e != api.OK || one.Part != parts[i] {
			return false
		}
		// By the name that the catalog has: the one that is told may be a piece of a far greater text.
		l.logs[parts[i]] = g
	}
	return true
}

func (l loaded) takeMakers() bool {
	for _, m := range l.told.Makers {
		if _, e := l.log(m.Part); e != api.OK {
			return false
		}
	}
	t, e := dedup.Load(l.told.Epochs, l.told.Makers)
	if e != api.OK {
		return false
	}
	l.makers = t
	return true
}

func (l loaded) takeGroups() bool {
	if len(l.told.Groups) > api.MaxGroups {
		return false
	}
	for i, one := range l.told.Groups {
		if !request.Name(one.Name) || i > 0 && one.Name <= l.told.Groups[i-1].Name {
			return false
		}
		g, e := group.Load(one.Gen, one.Robin, one.Seats)
		if e != api.OK {
			return false
		}
		// A name that is handed in may be a piece of a far greater text, that would be kept with it.
		l.groups[strings.Clone(one.Name)] = g
	}
	return true
}

func (l loaded) takeMarks() bool {
	for _, m := range l.told.Marks {
		if _, e := l.log(m.Part); e != api.OK {
			return false
		}
	}
	t, e := offsets.Load(l.told.Marks)
	if e != api.OK {
		return false
	}
	l.marks = t
	return true
}
