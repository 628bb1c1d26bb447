package cert

import "warrant/api"

// head begins every text; its last byte numbers the way of writing.
const head = "WC\x01"

// Encode writes a certificate's text.
func Encode(c api.Cert) (string, api.Errno) {
	if !isCert(c) {
		return "", api.ErrCert
	}
	s := shape{c.Problem, c.Grade}
	w := writer{text: []byte(head)}
	w.octet(byte(c.Problem))
	w.octet(byte(c.Grade))
	w.small(len(c.Nodes))
	for _, n := range c.Nodes {
		w.node(s, n)
		if len(w.text) > api.MaxCert {
			return "", api.ErrCert
		}
	}
	return string(w.text), api.OK
}

// writer writes what isCert has taken: it asks nothing of the numbers again.
type writer struct {
	text []byte
}

func (w *writer) octet(b byte) { w.text = append(w.text, b) }

func (w *writer) flag(b bool) {
	if b {
		w.octet(1)
	} else {
		w.octet(0)
	}
}

func (w *writer) count(n uint64) {
	for n >= 128 {
		w.octet(byte(n) | 128)
		n >>= 7
	}
	w.octet(byte(n))
}

// small writes a count, rank or fact: none is below 0.
func (w *writer) small(n int) { w.count(uint64(n)) }

func (w *writer) number(n int64) {
	if n >= 0 {
		w.count(2 * uint64(n))
	} else {
		// -2n - 1, worked out so that the least number does not wrap.
		w.count(2*uint64(-(n+1)) + 1)
	}
}

func (w *writer) node(s shape, n api.Node) {
	if s.hasSets() {
		w.set(n)
		return
	}
	w.flag(n.Reached)
	if n.Reached {
		w.environment(s, n)
	}
}

func (w *writer) set(n api.Node) {
	w.small(len(n.Facts))
	floor := 0
	for _, f := range n.Facts {
		w.small(f - floor)
		floor = f + 1
	}
	for _, r := range n.Ranks {
		w.small(r)
	}
}

func (w *writer) environment(s shape, n api.Node) {
	if s.isLeast() {
		w.small(n.Rank)
	}
	w.small(len(n.Vals))
	for _, v := range n.Vals {
		if s.problem == api.Ranges {
			w.bounds(v)
		} else {
			w.value(s, v)
		}
	}
}

func (w *writer) bounds(v api.Val) {
	w.number(v.Lo)
	w.count(uint64(v.Hi) - uint64(v.Lo))
}

func (w *writer) value(s shape, v api.Val) {
	w.octet(byte(v.Kind))
	if v.Kind == api.Constant {
		w.number(v.Lo)
		return
	}
	if !s.isLeast() {
		return
	}
	w.flag(v.Early)
	if v.Early {
		w.number(v.First)
		w.small(v.Rank)
	}
}
