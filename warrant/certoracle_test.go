package warrant

import (
	"encoding/binary"
	"reflect"
	"slices"
	"strings"

	"warrant/api"
)

// Certificates once more, by other means: what is one is told by taking over
// the fields that have a meaning and looking whether anything is left behind;
// a text is read loosely, and is one if it is what its certificate would be
// written as, by the library's numbers.

// plain has no list that is empty and not nil.
func plain(c api.Cert) api.Cert {
	c.Nodes = slices.Clone(c.Nodes)
	for i, n := range c.Nodes {
		if len(n.Facts) == 0 {
			c.Nodes[i].Facts = nil
		}
		if len(n.Ranks) == 0 {
			c.Nodes[i].Ranks = nil
		}
		if len(n.Vals) == 0 {
			c.Nodes[i].Vals = nil
		}
	}
	if len(c.Nodes) == 0 {
		c.Nodes = nil
	}
	return c
}

// judged takes over the fields that have a meaning, and asks of them what it comes to.
type judged struct {
	least, sets, ranges bool
	good                bool
}

func (j *judged) ask(b bool) { j.good = j.good && b }

func (j *judged) rank(n, above int) int {
	j.ask(above < n && n <= 100000)
	return n
}

func (j *judged) value(v api.Val, nodeRank int) api.Val {
	switch {
	case j.ranges:
		j.ask(v.Kind == 3 && !(v.Hi < v.Lo))
		return api.Val{Kind: 3, Lo: v.Lo, Hi: v.Hi}
	case v.Kind == 1:
		return api.Val{Kind: 1, Lo: v.Lo}
	case v.Kind == 2 && v.Early && j.least:
		return api.Val{Kind: 2, Early: true, First: v.First, Rank: j.rank(v.Rank, nodeRank)}
	case v.Kind == 2:
		return api.Val{Kind: 2}
	}
	j.ask(false)
	return api.Val{}
}

func (j *judged) node(n api.Node) api.Node {
	var to api.Node
	if j.sets {
		to.Facts = n.Facts
		above := -1
		for _, f := range n.Facts {
			above = j.rank(f, above)
		}
		if j.least {
			j.ask(len(n.Facts) == len(n.Ranks))
			to.Ranks = n.Ranks
			for _, r := range n.Ranks {
				j.rank(r, -1)
			}
		}
		return to
	}
	if !n.Reached {
		return to
	}
	to.Reached = true
	if j.least {
		to.Rank = j.rank(n.Rank, -1)
	}
	j.ask(len(n.Vals) <= 8)
	for _, v := range n.Vals {
		to.Vals = append(to.Vals, j.value(v, n.Rank))
	}
	return to
}

func genuine(c api.Cert) bool {
	j := judged{least: c.Grade == 1, sets: c.Problem < 5, ranges: c.Problem == 6, good: true}
	to := api.Cert{Problem: c.Problem, Grade: c.Grade}
	j.ask(slices.Contains([]int{11, 12, 21, 22, 31, 32, 41, 42, 51, 52, 62}, 10*c.Problem+c.Grade) && (c.Grade == 1 || c.Grade == 2))
	j.ask(len(c.Nodes) <= 60)
	for _, n := range c.Nodes {
		to.Nodes = append(to.Nodes, j.node(n))
	}
	return j.good && reflect.DeepEqual(plain(to), plain(c))
}

func count(b []byte, n int) []byte { return binary.AppendUvarint(b, uint64(n)) }

func bit(b []byte, set bool) []byte {
	if set {
		return append(b, 1)
	}
	return append(b, 0)
}

func appendNode(b []byte, c api.Cert, n api.Node) []byte {
	if c.Problem < 5 {
		b = count(b, len(n.Facts))
		for i, f := range n.Facts {
			if i > 0 {
				f -= n.Facts[i-1] + 1
			}
			b = count(b, f)
		}
		for _, r := range n.Ranks {
			b = count(b, r)
		}
		return b
	}
	b = bit(b, n.Reached)
	if !n.Reached {
		return b
	}
	if c.Grade == 1 {
		b = count(b, n.Rank)
	}
	b = count(b, len(n.Vals))
	for _, v := range n.Vals {
		switch {
		case c.Problem == 6:
			b = binary.AppendVarint(b, v.Lo)
			b = binary.AppendUvarint(b, uint64(v.Hi-v.Lo))
		case v.Kind == 1:
			b = binary.AppendVarint(append(b, 1), v.Lo)
		case c.Grade == 2:
			b = append(b, 2)
		default:
			b = bit(append(b, 2), v.Early)
			if v.Early {
				b = count(binary.AppendVarint(b, v.First), v.Rank)
			}
		}
	}
	return b
}

// written is the text that c should have, or none.
func written(c api.Cert) (string, bool) {
	if !genuine(c) {
		return "", false
	}
	b := []byte{'W', 'C', 1, byte(c.Problem), byte(c.Grade)}
	b = count(b, len(c.Nodes))
	for _, n := range c.Nodes {
		b = appendNode(b, c, n)
	}
	if len(b) > 60000 {
		return "", false
	}
	return string(b), true
}

// loose reads whatever may be read: a panic says that there is nothing more, or a count too great.
type loose struct{ rest []byte }

func (l *loose) byte() byte {
	b := l.rest[0]
	l.rest = l.rest[1:]
	return b
}

func (l *loose) unsigned() uint64 {
	n, k := binary.Uvarint(l.rest)
	if k <= 0 {
		panic("no number")
	}
	l.rest = l.rest[k:]
	return n
}

func (l *loose) signed() int64 {
	n, k := binary.Varint(l.rest)
	if k <= 0 {
		panic("no number")
	}
	l.rest = l.rest[k:]
	return n
}

func (l *loose) count() int {
	n := l.unsigned()
	if n > 200000 {
		panic("a great count")
	}
	return int(n)
}

func (l *loose) value(c api.Cert) api.Val {
	if c.Problem == 6 {
		lo := l.signed()
		return api.Val{Kind: 3, Lo: lo, Hi: lo + int64(l.unsigned())}
	}
	v := api.Val{Kind: int(l.byte())}
	if v.Kind == 1 {
		v.Lo = l.signed()
	} else if c.Grade == 1 && l.byte() != 0 {
		v.Early = true
		v.First = l.signed()
		v.Rank = l.count()
	}
	return v
}

func (l *loose) node(c api.Cert) api.Node {
	var n api.Node
	if c.Problem < 5 {
		last := -1
		for range l.count() {
			last += 1 + l.count()
			n.Facts = append(n.Facts, last)
		}
		if c.Grade == 1 {
			for range n.Facts {
				n.Ranks = append(n.Ranks, l.count())
			}
		}
		return n
	}
	if n.Reached = l.byte() != 0; !n.Reached {
		return n
	}
	if c.Grade == 1 {
		n.Rank = l.count()
	}
	for range l.count() {
		n.Vals = append(n.Vals, l.value(c))
	}
	return n
}

// read is the certificate that the text should be of, or none.
func read(text string) (c api.Cert, ok bool) {
	defer func() {
		if recover() != nil {
			c, ok = api.Cert{}, false
		}
	}()
	rest, _ := strings.CutPrefix(text, "WC")
	l := loose{[]byte(rest)}
	l.byte()
	c.Problem, c.Grade = int(l.byte()), int(l.byte())
	for range l.count() {
		c.Nodes = append(c.Nodes, l.node(c))
	}
	if again, good := written(c); !good || again != text {
		return api.Cert{}, false
	}
	return c, true
}
