package warrant

import (
	"math/big"
	"regexp"
	"slices"
	"strings"

	"warrant/api"
)

// The same promises once more, worked out by other means: forms of lines as
// regular expressions, runs over the words with numbers of any size.

const (
	nameForm    = `([a-z][a-z0-9]{0,5})`
	operandForm = `([a-z][a-z0-9]{0,5}|0|-?[1-9][0-9]*)`
)

func lineForms() []*regexp.Regexp {
	var forms []*regexp.Regexp
	for _, s := range []string{
		nameForm + " = " + operandForm,
		nameForm + " = " + operandForm + " [-+*/] " + operandForm,
		nameForm + " = input",
		"output " + operandForm,
		"if " + operandForm + " (?:<|<=|==|!=) " + operandForm + " goto " + nameForm,
		"goto " + nameForm,
		"return",
	} {
		forms = append(forms, regexp.MustCompile(`\A(?:`+nameForm+`: )?`+s+`\z`))
	}
	return forms
}

var (
	forms    = lineForms()
	wordForm = regexp.MustCompile(`[^ \t\r]+`)
	reserved = []string{"input", "output", "if", "goto", "return"}
	least    = new(big.Int).Neg(new(big.Int).Lsh(big.NewInt(1), 63))
	modulus  = new(big.Int).Lsh(big.NewInt(1), 64)
)

func fits(n *big.Int) bool { return n.IsInt64() }

func wellFormed(line string) bool {
	for _, form := range forms {
		groups := form.FindStringSubmatch(line)
		if groups == nil {
			continue
		}
		good := true
		for _, g := range groups[1:] {
			n, isNumber := new(big.Int).SetString(g, 10)
			good = good && !slices.Contains(reserved, g) && !(isNumber && !fits(n))
		}
		if good {
			return true
		}
	}
	return false
}

// oracle is a program as the oracle has it: a line of words for each node, the labels apart.
type oracle struct {
	printed string
	lines   [][]string
	places  map[string]int
	vars    []string
	laid    [][]way
}

func (o *oracle) noteVariables(words []string) {
	var places []int
	switch words[0] {
	case "output":
		places = []int{1}
	case "if":
		places = []int{1, 3}
	case "goto", "return":
	default:
		places = []int{0, 2, 4}
	}
	for _, i := range places {
		if i < len(words) && words[i] != "input" && words[i][0] >= 'a' && !slices.Contains(o.vars, words[i]) {
			o.vars = append(o.vars, words[i])
		}
	}
}

func judge(text string) (oracle, api.Errno) {
	o := oracle{places: map[string]int{}}
	twice := false
	if len(text) > 3000 {
		return o, api.ErrSyntax
	}
	for _, line := range strings.Split(text, "\n") {
		words := wordForm.FindAllString(line, -1)
		if len(words) == 0 || strings.HasPrefix(words[0], "#") {
			continue
		}
		plain := strings.Join(words, " ")
		if !wellFormed(plain) {
			return o, api.ErrSyntax
		}
		o.printed += plain + "\n"
		if label, has := strings.CutSuffix(words[0], ":"); has {
			_, here := o.places[label]
			twice = twice || here
			o.places[label] = len(o.lines)
			words = words[1:]
		}
		o.noteVariables(words)
		o.lines = append(o.lines, words)
	}
	if twice || len(o.lines) < 1 || len(o.lines) > 60 || len(o.vars) > 8 || !o.closed() {
		return o, api.ErrProgram
	}
	return o, api.OK
}

func (o *oracle) closed() bool {
	for _, words := range o.lines {
		if words[0] == "goto" || words[0] == "if" {
			if _, ok := o.places[words[len(words)-1]]; !ok {
				return false
			}
		}
	}
	last := o.lines[len(o.lines)-1][0]
	return last == "goto" || last == "return"
}

// wrapped is n as 64 bits have it.
func wrapped(n *big.Int) *big.Int {
	r := new(big.Int).Sub(n, least)
	r.Mod(r, modulus)
	return r.Add(r, least)
}

func worked(op string, a, b *big.Int) *big.Int {
	r := new(big.Int)
	switch op {
	case "+":
		r.Add(a, b)
	case "-":
		r.Sub(a, b)
	case "*":
		r.Mul(a, b)
	default:
		r.Quo(a, b)
	}
	return wrapped(r)
}

func (o *oracle) run(inputs []int64, fuel int) api.Trace {
	var trace api.Trace
	vals := map[string]*big.Int{}
	for _, v := range o.vars {
		vals[v] = new(big.Int)
	}
	value := func(word string) *big.Int {
		if v, ok := vals[word]; ok {
			return v
		}
		n, _ := new(big.Int).SetString(word, 10)
		return n
	}
	for at := 0; ; {
		if len(trace.Steps) == fuel {
			trace.End = 4
			return trace
		}
		now := make([]int64, len(o.vars))
		for i, v := range o.vars {
			now[i] = vals[v].Int64()
		}
		trace.Steps = append(trace.Steps, api.Step{Node: at, Vals: now})
		w := o.lines[at]
		at++
		switch {
		case w[0] == "return":
			trace.End = 1
			return trace
		case w[0] == "goto":
			at = o.places[w[1]]
		case w[0] == "output":
			trace.Outputs = append(trace.Outputs, value(w[1]).Int64())
		case w[0] == "if":
			c := value(w[1]).Cmp(value(w[3]))
			if w[2] == "<" && c < 0 || w[2] == "<=" && c <= 0 || w[2] == "==" && c == 0 || w[2] == "!=" && c != 0 {
				at = o.places[w[5]]
			}
		case w[2] == "input":
			if len(inputs) == 0 {
				trace.End = 3
				return trace
			}
			vals[w[0]] = big.NewInt(inputs[0])
			inputs = inputs[1:]
		case len(w) == 3:
			vals[w[0]] = value(w[2])
		default:
			if w[3] == "/" && value(w[4]).Sign() == 0 {
				trace.End = 2
				return trace
			}
			vals[w[0]] = worked(w[3], value(w[2]), value(w[4]))
		}
	}
}
