package source

// Op is what a Compute node does with its operands.
type Op int

const (
	Add Op = iota
	Sub
	Mul
	Div
)

// Test is what an If node asks of its operands.
type Test int

const (
	Less Test = iota
	AtMost
	Equal
	NotEqual
)

func parseOp(word string) (Op, bool) {
	switch word {
	case "+":
		return Add, true
	case "-":
		return Sub, true
	case "*":
		return Mul, true
	case "/":
		return Div, true
	}
	return 0, false
}

func parseTest(word string) (Test, bool) {
	switch word {
	case "<":
		return Less, true
	case "<=":
		return AtMost, true
	case "==":
		return Equal, true
	case "!=":
		return NotEqual, true
	}
	return 0, false
}

// Apply works out a op b; it is false for a division by 0.
func (o Op) Apply(a, b int64) (int64, bool) {
	switch o {
	case Add:
		return a + b, true
	case Sub:
		return a - b, true
	case Mul:
		return a * b, true
	}
	if b == 0 {
		return 0, false
	}
	// Go's own division wraps too: the least number by -1 is itself.
	return a / b, true
}

// Holds reports whether a test b is so.
func (t Test) Holds(a, b int64) bool {
	switch t {
	case Less:
		return a < b
	case AtMost:
		return a <= b
	case Equal:
		return a == b
	}
	return a != b
}
