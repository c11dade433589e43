package request

import (
	"slices"

	"stagecoach/api"
	"stagecoach/record"
)

// Reply is a reply's bytes.
func Reply(r api.Reply) (string, api.Errno) {
	if e := checkReply(r); e != api.OK {
		return "", e
	}
	var w writer
	for _, n := range [...]int{int(r.E), r.Offset, r.N, r.Gen, len(r.Found)} {
		w.put(n)
	}
	for _, f := range r.Found {
		w.put(f.Offset)
		// Checked above.
		s, _ := record.Put(f.R)
		w.l = append(w.l, s...)
	}
	w.put(len(r.Parts))
	for _, p := range r.Parts {
		w.name(p.Topic, nil)
		w.put(p.N)
	}
	return string(w.l), api.OK
}

// checkReply tells whether a reply may be.
func checkReply(r api.Reply) api.Errno {
	switch {
	case !replyNumbers(r):
		return api.ErrArg
	case len(r.Found) > mostListed, len(r.Parts) > mostListed:
		return api.ErrBig
	case slices.ContainsFunc(r.Found, noRecord), slices.ContainsFunc(r.Parts, noTopic):
		return api.ErrRequestForm
	}
	return api.OK
}

// replyNumbers tells whether all numbers of a reply are numbers.
func replyNumbers(r api.Reply) bool {
	for _, n := range [...]int{int(r.E), r.Offset, r.N, r.Gen} {
		if !number(n) {
			return false
		}
	}
	return !slices.ContainsFunc(r.Found, func(f api.Found) bool { return !number(f.Offset) }) &&
		!slices.ContainsFunc(r.Parts, func(p api.Part) bool { return !number(p.N) })
}

// noRecord tells whether what was found is a record that may not be.
func noRecord(f api.Found) bool {
	return record.Check(f.R) != api.OK
}

// noTopic tells whether a partition's topic is no name.
func noTopic(p api.Part) bool {
	return !Name(p.Topic)
}

// Parse is the reply whose bytes they are.
func Parse(s string) (api.Reply, api.Errno) {
	in := reader{s: s}
	r := api.Reply{
		E:      api.Errno(in.get(api.MaxOffset)),
		Offset: in.get(api.MaxOffset),
		N:      in.get(api.MaxOffset),
		Gen:    in.get(api.MaxOffset),
	}
	r.Found = make([]api.Found, in.get(mostListed))
	for i := range r.Found {
		r.Found[i] = api.Found{Offset: in.get(api.MaxOffset), R: in.record()}
	}
	r.Parts = make([]api.Part, in.get(mostListed))
	for i := range r.Parts {
		r.Parts[i] = api.Part{Topic: in.text(), N: in.get(api.MaxOffset)}
	}
	if !in.done() || checkReply(r) != api.OK {
		return api.Reply{}, api.ErrRequestForm
	}
	return r, api.OK
}

// Alike tells whether two replies are the same.
func Alike(a, b api.Reply) bool {
	return a.E == b.E && a.Offset == b.Offset && a.N == b.N && a.Gen == b.Gen &&
		slices.Equal(a.Found, b.Found) && slices.Equal(a.Parts, b.Parts)
}
