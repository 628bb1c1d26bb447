package source

import (
	"strings"

	"warrant/api"
)

// Parse reads a program. The whole text is read before the program is judged,
// so that ErrSyntax comes ahead of ErrProgram wherever its cause stands.
func Parse(text string) (Program, api.Errno) {
	if len(text) > api.MaxText {
		return Program{}, api.ErrSyntax
	}
	r := reader{numbers: map[string]int{}}
	var nodes []Node
	for _, line := range strings.Split(text, "\n") {
		words := cutWords(line)
		if saysNothing(words) {
			continue
		}
		node, ok := r.readLine(words)
		if !ok {
			return Program{}, api.ErrSyntax
		}
		nodes = append(nodes, node)
	}
	if len(r.numbers) > api.MaxVars || !link(nodes) {
		return Program{}, api.ErrProgram
	}
	return Program{Nodes: nodes, Vars: len(r.numbers)}, api.OK
}

// reader numbers the variables as it comes to them: operands must be read from left to right.
type reader struct {
	numbers map[string]int
}

func (r *reader) readLine(words []string) (Node, bool) {
	label := ""
	if name, ok := strings.CutSuffix(words[0], ":"); ok {
		if !isName(name) {
			return Node{}, false
		}
		label, words = name, words[1:]
	}
	if len(words) == 0 {
		return Node{}, false
	}
	node, ok := r.readStatement(words)
	node.Label, node.Words = label, words
	return node, ok
}

func (r *reader) readStatement(words []string) (Node, bool) {
	switch words[0] {
	case "output":
		return r.readOutput(words)
	case "if":
		return r.readIf(words)
	case "goto":
		return readGoto(words)
	case "return":
		return Node{Kind: Return}, len(words) == 1
	}
	return r.readAssignment(words)
}

func (r *reader) readOutput(words []string) (Node, bool) {
	if len(words) != 2 {
		return Node{}, false
	}
	a, ok := r.operand(words[1])
	return Node{Kind: Output, A: a}, ok
}

func (r *reader) readIf(words []string) (Node, bool) {
	if len(words) != 6 || words[4] != "goto" {
		return Node{}, false
	}
	a, okA := r.operand(words[1])
	test, okTest := parseTest(words[2])
	b, okB := r.operand(words[3])
	goal := words[5]
	return Node{Kind: If, Test: test, A: a, B: b, goal: goal}, okA && okTest && okB && isName(goal)
}

func readGoto(words []string) (Node, bool) {
	if len(words) != 2 {
		return Node{}, false
	}
	return Node{Kind: Goto, goal: words[1]}, isName(words[1])
}

func (r *reader) readAssignment(words []string) (Node, bool) {
	if len(words) < 3 || !isName(words[0]) || words[1] != "=" {
		return Node{}, false
	}
	x := r.variable(words[0])
	if len(words) == 3 && words[2] == "input" {
		return Node{Kind: Input, Var: x}, true
	}
	a, okA := r.operand(words[2])
	if len(words) == 3 {
		return Node{Kind: Copy, Var: x, A: a}, okA
	}
	if len(words) != 5 {
		return Node{}, false
	}
	op, okOp := parseOp(words[3])
	b, okB := r.operand(words[4])
	return Node{Kind: Compute, Var: x, Op: op, A: a, B: b}, okA && okOp && okB
}

func (r *reader) operand(word string) (Operand, bool) {
	if isName(word) {
		return Operand{IsVar: true, Var: r.variable(word)}, true
	}
	c, ok := parseConstant(word)
	return Operand{Const: c}, ok
}

func (r *reader) variable(name string) int {
	n, ok := r.numbers[name]
	if !ok {
		n = len(r.numbers)
		r.numbers[name] = n
	}
	return n
}
