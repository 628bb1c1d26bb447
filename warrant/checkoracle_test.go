package warrant

import (
	"maps"
	"math/big"
	"slices"

	"warrant/api"
)

// Certificates against programs once more, by other means: the rules are
// asked over the lines' words, facts have names and are held in maps, bounds
// and constants are numbers of any size.

// way is an edge, and what is so on it of an if ("<" and the like, and the operands).
type way struct {
	to      int
	a, t, b string
}

// ways are worked out once: the rules ask for them over and over.
func (o *oracle) ways(n int) []way {
	for len(o.laid) < len(o.lines) {
		o.laid = append(o.laid, o.waysOf(len(o.laid)))
	}
	return o.laid[n]
}

func (o *oracle) waysOf(n int) []way {
	w := o.lines[n]
	switch w[0] {
	case "return":
		return nil
	case "goto":
		return []way{{to: o.places[w[1]]}}
	case "if":
		so, not := way{o.places[w[5]], w[1], w[2], w[3]}, way{to: n + 1, a: w[1], b: w[3]}
		switch w[2] {
		case "<":
			not.a, not.t, not.b = w[3], "<=", w[1]
		case "<=":
			not.a, not.t, not.b = w[3], "<", w[1]
		case "==":
			not.t = "!="
		default:
			not.t = "=="
		}
		return []way{so, not}
	}
	return []way{{to: n + 1}}
}

// defined is the variable that a line gives a value, or "".
func (o *oracle) defined(n int) string {
	if w := o.lines[n]; len(w) > 1 && w[1] == "=" {
		return w[0]
	}
	return ""
}

func (o *oracle) isVar(word string) bool { return slices.Contains(o.vars, word) }

// expression is what line n evaluates, or "".
func (o *oracle) expression(n int) string {
	w := o.lines[n]
	if o.defined(n) == "" || len(w) != 5 || !o.isVar(w[2]) && !o.isVar(w[4]) {
		return ""
	}
	return w[2] + " " + w[3] + " " + w[4]
}

func (o *oracle) kills(n int, expression string) bool {
	x := o.defined(n)
	words := wordForm.FindAllString(expression, -1)
	return x != "" && (words[0] == x || words[2] == x)
}

func (o *oracle) uses(n int, x string) bool {
	w := o.lines[n]
	switch {
	case w[0] == "output":
		return w[1] == x
	case w[0] == "if":
		return w[1] == x || w[3] == x
	case o.defined(n) != "":
		return slices.Contains(w[2:], x)
	}
	return false
}

// fact has a name, and of a definition the variable.
type fact struct{ name, variable string }

func (o *oracle) facts(problem int) []fact {
	var l []fact
	for _, v := range o.vars {
		if problem == 1 || problem == 2 {
			l = append(l, fact{"of " + v, v})
		}
	}
	for n := range o.lines {
		if x := o.defined(n); problem == 1 && x != "" {
			l = append(l, fact{"at " + big.NewInt(int64(n)).String(), x})
		}
		if e := (fact{name: o.expression(n)}); problem > 2 && e.name != "" && !slices.Contains(l, e) {
			l = append(l, e)
		}
	}
	return l
}

// puts reports whether the rules put f at n, if has tells what is at the nodes.
func (o *oracle) puts(problem, n int, f fact, has func(node int, f fact) bool) bool {
	switch problem {
	case 1:
		if n == 0 && f.name == "of "+f.variable {
			return true
		}
		return o.comes(n, func(p int) bool {
			own := f.name == "at "+big.NewInt(int64(p)).String()
			return own || has(p, f) && o.defined(p) != f.variable
		})
	case 2:
		return o.uses(n, f.variable) || o.goes(n, func(s int) bool { return has(s, f) && o.defined(n) != f.variable })
	case 3:
		return n == 0 || o.comes(n, func(p int) bool { return o.kills(p, f.name) || has(p, f) && o.expression(p) != f.name })
	}
	if o.lines[n][0] == "return" {
		return true
	}
	if o.expression(n) == f.name {
		return false
	}
	return o.kills(n, f.name) || o.goes(n, func(s int) bool { return has(s, f) })
}

// comes asks about each node with an edge to n, goes about each that n has an edge to.
func (o *oracle) comes(n int, ask func(p int) bool) bool {
	for p := range o.lines {
		for _, w := range o.ways(p) {
			if w.to == n && ask(p) {
				return true
			}
		}
	}
	return false
}

func (o *oracle) goes(n int, ask func(s int) bool) bool {
	return slices.ContainsFunc(o.ways(n), func(w way) bool { return ask(w.to) })
}

func (o *oracle) checkSets(c api.Cert) api.Errno {
	known := o.facts(c.Problem)
	ranks := make([]map[fact]int, len(c.Nodes))
	for n, node := range c.Nodes {
		ranks[n] = map[fact]int{}
		for i, f := range node.Facts {
			if f >= len(known) {
				return api.ErrSize
			}
			ranks[n][known[f]] = 0
			if c.Grade == 1 {
				ranks[n][known[f]] = node.Ranks[i]
			}
		}
	}
	below := func(rank int) func(int, fact) bool {
		return func(n int, f fact) bool {
			r, ok := ranks[n][f]
			return ok && r < rank
		}
	}
	answer := api.OK
	for n := range ranks {
		for _, f := range known {
			rank, here := ranks[n][f]
			if !here && o.puts(c.Problem, n, f, below(1<<30)) {
				return api.ErrSound
			}
			if here && c.Grade == 1 && !o.puts(c.Problem, n, f, below(rank)) {
				answer = api.ErrLeast
			}
		}
	}
	return answer
}

// span is a value: bounds, of a constant twice the same; of any nil.
type span [2]*big.Int

// spans is an environment; none is nil. A program without variables has one that is empty.
type spans map[string]span

var greatest = new(big.Int).Sub(new(big.Int).Neg(least), big.NewInt(1))

func (o *oracle) value(e spans, word string) span {
	if o.isVar(word) {
		return e[word]
	}
	n, _ := new(big.Int).SetString(word, 10)
	return span{n, n}
}

func (s span) isAny() bool { return s[0] == nil }

func (s span) isJust(n int64) bool { return !s.isAny() && s.isOne() && s[0].Cmp(big.NewInt(n)) == 0 }

func (s span) isOne() bool { return s[0].Cmp(s[1]) == 0 }

// inside reports whether s is at most t.
func (s span) inside(t span) bool {
	return t.isAny() || !s.isAny() && t[0].Cmp(s[0]) <= 0 && s[1].Cmp(t[1]) <= 0
}

func low(a, b *big.Int) *big.Int {
	if a.Cmp(b) < 0 {
		return a
	}
	return b
}

func high(a, b *big.Int) *big.Int {
	if a.Cmp(b) < 0 {
		return b
	}
	return a
}

// computed is false where a program traps.
func computed(ranges bool, op string, a, b span) (span, bool) {
	if op == "/" && b.isJust(0) {
		return span{}, false
	}
	if !ranges {
		if a.isAny() || b.isAny() {
			return span{}, true
		}
		n := worked(op, a[0], b[0])
		return span{n, n}, true
	}
	if op == "/" && !b.isOne() {
		return span{least, greatest}, true
	}
	var to span
	for _, m := range a {
		for _, n := range b {
			r := new(big.Int)
			switch op {
			case "+":
				r.Add(m, n)
			case "-":
				r.Sub(m, n)
			case "*":
				r.Mul(m, n)
			default:
				r.Quo(m, n)
			}
			if to.isAny() {
				to = span{r, r}
			}
			to = span{low(to[0], r), high(to[1], r)}
		}
	}
	if !fits(to[0]) || !fits(to[1]) {
		to = span{least, greatest}
	}
	return to, true
}

// passed is what is left of e on the way w of an if; nil if nothing is.
func (o *oracle) passed(ranges bool, e spans, w way) spans {
	a, b := o.value(e, w.a), o.value(e, w.b)
	if !ranges {
		if a.isAny() || b.isAny() {
			return e
		}
		c := a[0].Cmp(b[0])
		if w.t == "<" && c < 0 || w.t == "<=" && c <= 0 || w.t == "==" && c == 0 || w.t == "!=" && c != 0 {
			return e
		}
		return nil
	}
	// What a and b may be at most: bounds that are of any size.
	mayA, mayB := a, b
	one := big.NewInt(1)
	switch w.t {
	case "<":
		mayA[1], mayB[0] = new(big.Int).Sub(b[1], one), new(big.Int).Add(a[0], one)
	case "<=":
		mayA[1], mayB[0] = b[1], a[0]
	case "==":
		mayA, mayB = b, a
	default:
		if a.isOne() && b.isOne() && a[0].Cmp(b[0]) == 0 {
			return nil
		}
	}
	left := maps.Clone(e)
	for _, m := range []struct {
		word    string
		is, may span
	}{{w.a, a, mayA}, {w.b, b, mayB}} {
		if o.isVar(m.word) {
			m.is = left[m.word]
		}
		m.is = span{high(m.is[0], m.may[0]), low(m.is[1], m.may[1])}
		if m.is[0].Cmp(m.is[1]) > 0 {
			return nil
		}
		if o.isVar(m.word) {
			left[m.word] = m.is
		}
	}
	return left
}

func (o *oracle) made(ranges bool, n int, w way, e spans) spans {
	words := o.lines[n]
	if e == nil {
		return nil
	}
	if words[0] == "if" {
		return o.passed(ranges, e, w)
	}
	x := o.defined(n)
	if x == "" {
		return e
	}
	to := maps.Clone(e)
	switch {
	case words[2] == "input" && ranges:
		to[x] = span{least, greatest}
	case words[2] == "input":
		to[x] = span{}
	case len(words) == 3:
		to[x] = o.value(e, words[2])
	default:
		v, ok := computed(ranges, words[3], o.value(e, words[2]), o.value(e, words[4]))
		if !ok {
			return nil
		}
		to[x] = v
	}
	return to
}

func joinedSpans(ranges bool, a, b spans) spans {
	if a == nil || b == nil {
		if a == nil {
			return b
		}
		return a
	}
	to := spans{}
	for x, v := range a {
		switch {
		case ranges:
			to[x] = span{low(v[0], b[x][0]), high(v[1], b[x][1])}
		case v.isAny() || b[x].isAny() || v[0].Cmp(b[x][0]) != 0:
			to[x] = span{}
		default:
			to[x] = v
		}
	}
	return to
}

func (o *oracle) said(ranges bool, n int, at func(node int) spans) spans {
	var e spans
	if n == 0 {
		e = spans{}
		for _, v := range o.vars {
			e[v] = span{new(big.Int), new(big.Int)}
		}
	}
	for p := range o.lines {
		for _, w := range o.ways(p) {
			if w.to == n {
				e = joinedSpans(ranges, e, o.made(ranges, p, w, at(p)))
			}
		}
	}
	return e
}

// spansAt is a certificate's environment at a rank.
func (o *oracle) spansAt(n api.Node, rank int) spans {
	if !n.Reached || n.Rank >= rank {
		return nil
	}
	e := spans{}
	for i, x := range o.vars {
		v := n.Vals[i]
		switch {
		case v.Kind == 3:
			e[x] = span{big.NewInt(v.Lo), big.NewInt(v.Hi)}
		case v.Kind == 1:
			e[x] = span{big.NewInt(v.Lo), big.NewInt(v.Lo)}
		case v.Early && rank <= v.Rank:
			e[x] = span{big.NewInt(v.First), big.NewInt(v.First)}
		default:
			e[x] = span{}
		}
	}
	return e
}

func insideSpans(a, b spans) bool {
	if a == nil || b == nil {
		return a == nil
	}
	for x, v := range a {
		if !v.inside(b[x]) {
			return false
		}
	}
	return true
}

func (o *oracle) checkSpans(c api.Cert) api.Errno {
	for _, n := range c.Nodes {
		if n.Reached && len(n.Vals) != len(o.vars) {
			return api.ErrSize
		}
	}
	at := func(rank int) func(int) spans {
		return func(n int) spans { return o.spansAt(c.Nodes[n], rank) }
	}
	answer := api.OK
	for n, node := range c.Nodes {
		if !insideSpans(o.said(c.Problem == 6, n, at(1<<30)), o.spansAt(node, 1<<30)) {
			return api.ErrSound
		}
		if c.Grade == 2 || !node.Reached {
			continue
		}
		first := maps.Clone(o.spansAt(node, 1<<30))
		for i, v := range node.Vals {
			if !v.Early {
				continue
			}
			first[o.vars[i]] = span{big.NewInt(v.First), big.NewInt(v.First)}
			if e := o.said(false, n, at(v.Rank)); e == nil || !e[o.vars[i]].isAny() {
				answer = api.ErrLeast
			}
		}
		if !insideSpans(first, o.said(false, n, at(node.Rank))) {
			answer = api.ErrLeast
		}
	}
	return answer
}

// checked is what Check answers.
func checked(program, text string) ([]api.Node, api.Errno) {
	o, e := judge(program)
	if e != api.OK {
		return nil, e
	}
	c, ok := read(text)
	switch {
	case !ok:
		return nil, api.ErrCert
	case len(c.Nodes) != len(o.lines):
		return nil, api.ErrSize
	case c.Problem < 5:
		e = o.checkSets(c)
	default:
		e = o.checkSpans(c)
	}
	if e != api.OK {
		return nil, e
	}
	return unranked(c.Nodes), api.OK
}

// unranked are the nodes with all that is about ranks taken out.
func unranked(nodes []api.Node) []api.Node {
	l := slices.Clone(nodes)
	for i := range l {
		l[i].Ranks, l[i].Rank = nil, 0
		l[i].Vals = slices.Clone(l[i].Vals)
		for j := range l[i].Vals {
			l[i].Vals[j].Early, l[i].Vals[j].First, l[i].Vals[j].Rank = false, 0, 0
		}
	}
	return l
}
