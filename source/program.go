// Package source: programs, read from their texts and printed.
package source

// Kind says what a node does.
type Kind int

const (
	Copy    Kind = iota // x = a
	Compute             // x = a op b
	Input               // x = input
	Output              // output a
	If                  // if a test b goto l
	Goto                // goto l
	Return              // return
)

// Operand is a variable or a constant.
type Operand struct {
	IsVar bool
	Var   int   // the variable's number
	Const int64 // of an operand that is no variable
}

// Node is one node of a program.
type Node struct {
	Label string   // empty if there is none
	Words []string // without the label
	Kind  Kind
	Var   int  // of Copy, Compute and Input: the variable that gets a value
	Op    Op   // of Compute
	Test  Test // of If
	A, B  Operand
	Edges []int // the nodes that it may go on to; of If the label's first

	goal string // the label that is named, until it is found
}

// Program is a program that can be run: it has a node at least, and every edge leads to a node.
type Program struct {
	Nodes []Node
	Vars  int // the count of variables
}

// namesLabel reports whether the node has a goal.
func (n Node) namesLabel() bool {
	return n.Kind == If || n.Kind == Goto
}

// Defines reports whether the node gives its Var a value.
func (n Node) Defines() bool {
	return n.Kind == Copy || n.Kind == Compute || n.Kind == Input
}

// Operands are those that the node's words name.
func (n Node) Operands() []Operand {
	switch n.Kind {
	case Copy, Output:
		return []Operand{n.A}
	case Compute, If:
		return []Operand{n.A, n.B}
	}
	return nil
}
