package cert

import (
	"strings"

	"warrant/api"
)

// Decode reads a certificate's text.
func Decode(text string) (api.Cert, api.Errno) {
	rest, ok := strings.CutPrefix(text, head)
	if !ok || len(text) > api.MaxCert {
		return api.Cert{}, api.ErrCert
	}
	r := reader{rest: rest}
	c := r.cert()
	// What the bytes alone can't tell (bounds that cross, an early rank that is too low) isCert tells.
	if r.bad || r.rest != "" || !isCert(c) {
		return api.Cert{}, api.ErrCert
	}
	return c, api.OK
}

// reader reads on from rest. Once something is wrong, bad stays true, and all that is read is 0.
type reader struct {
	rest string
	bad  bool
}

func (r *reader) octet() byte {
	if r.bad || r.rest == "" {
		r.bad = true
		return 0
	}
	b := r.rest[0]
	r.rest = r.rest[1:]
	return b
}

func (r *reader) flag() bool {
	b := r.octet()
	r.bad = r.bad || b > 1
	return b == 1
}

func (r *reader) count() uint64 {
	var n uint64
	for shift := 0; ; shift += 7 {
		b := r.octet()
		// Of the tenth byte just one bit fits into 64.
		if b == 0 && shift > 0 || b > 1 && shift == 63 {
			r.bad = true
		}
		if r.bad {
			return 0
		}
		n |= uint64(b&127) << shift
		if b < 128 {
			return n
		}
	}
}

// small reads a count, rank or fact that must not be above most.
func (r *reader) small(most int) int {
	n := r.count()
	if most < 0 || n > uint64(most) {
		r.bad = true
		return 0
	}
	return int(n)
}

func (r *reader) number() int64 {
	n := r.count()
	if n%2 == 0 {
		return int64(n / 2)
	}
	return -int64(n/2) - 1
}

// readList reads n things one by one. Each list has memory of its own, and no spare room.
func readList[T any](r *reader, n int, read func() T) []T {
	if n == 0 {
		return nil
	}
	l := make([]T, n)
	for i := range l {
		l[i] = read()
		if r.bad {
			return nil
		}
	}
	return l
}

func (r *reader) cert() api.Cert {
	var c api.Cert
	c.Problem = int(r.octet())
	c.Grade = int(r.octet())
	s := shape{c.Problem, c.Grade}
	if !s.isKnown() {
		r.bad = true
		return api.Cert{}
	}
	c.Nodes = readList(r, r.small(api.MaxNodes), func() api.Node { return r.node(s) })
	return c
}

func (r *reader) node(s shape) api.Node {
	if s.hasSets() {
		return r.set(s)
	}
	if !r.flag() {
		return api.Node{}
	}
	return r.environment(s)
}

func (r *reader) set(s shape) api.Node {
	// Each fact takes a byte at least: a count above the bytes that are left must not ask for memory.
	count := r.small(len(r.rest))
	var n api.Node
	floor := 0
	n.Facts = readList(r, count, func() int {
		f := floor + r.small(api.MaxRank-floor)
		floor = f + 1
		return f
	})
	if s.isLeast() {
		n.Ranks = readList(r, count, r.rank)
	}
	return n
}

func (r *reader) rank() int { return r.small(api.MaxRank) }

func (r *reader) environment(s shape) api.Node {
	n := api.Node{Reached: true}
	if s.isLeast() {
		n.Rank = r.rank()
	}
	n.Vals = readList(r, r.small(api.MaxVars), func() api.Val {
		if s.problem == api.Ranges {
			return r.bounds()
		}
		return r.value(s)
	})
	return n
}

func (r *reader) bounds() api.Val {
	lo := r.number()
	// A Hi that does not fit wraps round to below Lo, and isCert refuses it.
	hi := int64(uint64(lo) + r.count())
	return api.Val{Kind: api.Range, Lo: lo, Hi: hi}
}

func (r *reader) value(s shape) api.Val {
	v := api.Val{Kind: int(r.octet())}
	switch v.Kind {
	case api.Constant:
		v.Lo = r.number()
	case api.Any:
		if s.isLeast() && r.flag() {
			v.Early = true
			v.First = r.number()
			v.Rank = r.rank()
		}
	default:
		r.bad = true
	}
	return v
}
