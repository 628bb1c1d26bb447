package source

import "strings"

// Print writes the program, a line for each node.
func (p Program) Print() string {
	var b strings.Builder
	for _, node := range p.Nodes {
		if node.Label != "" {
			b.WriteString(node.Label)
			b.WriteString(": ")
		}
		for i, word := range node.Words {
			if i > 0 {
				b.WriteByte(' ')
			}
			b.WriteString(word)
		}
		b.WriteByte('\n')
	}
	return b.String()
}
