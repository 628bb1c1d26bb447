// Package facts: sets of facts, as words of bits.
package facts

import (
	"iter"
	"math/bits"

	"warrant/api"
)

// Most is the greatest count of facts that a problem has: of Reaching a
// beginning value for each variable, and a definition for each node.
const Most = api.MaxVars + api.MaxNodes

const wordBits = 64

// Set is a set of facts from 0 to Most - 1.
type Set [(Most + wordBits - 1) / wordBits]uint64

// Of is the set of these facts.
func Of(facts ...int) Set {
	var s Set
	for _, f := range facts {
		s[f/wordBits] |= 1 << (f % wordBits)
	}
	return s
}

// UpTo is the set of the facts below count.
func UpTo(count int) Set {
	var s Set
	for f := range count {
		s = Union(s, Of(f))
	}
	return s
}

// Union joins sets.
func Union(sets ...Set) Set {
	var all Set
	for _, s := range sets {
		for i, word := range s {
			all[i] |= word
		}
	}
	return all
}

// Without is what is in s and not in t.
func (s Set) Without(t Set) Set {
	for i, word := range t {
		s[i] &^= word
	}
	return s
}

// Has reports whether f is in s.
func (s Set) Has(f int) bool { return Of(f).IsPartOf(s) }

// IsPartOf reports whether all that is in s is in t.
func (s Set) IsPartOf(t Set) bool { return s.Without(t) == Set{} }

// All goes through the facts of s, rising.
func (s Set) All() iter.Seq[int] {
	return func(yield func(int) bool) {
		for i, word := range s {
			// Each round takes the lowest bit away.
			for ; word != 0; word &= word - 1 {
				if !yield(i*wordBits + bits.TrailingZeros64(word)) {
					return
				}
			}
		}
	}
}
