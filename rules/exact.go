package rules

// exact is a result, and whether it fits into 64 bits: if not, n is what it wraps round to.
type exact struct {
	n    int64
	fits bool
}

func sum(a, b int64) exact {
	n := a + b
	return exact{n, (n < a) == (b < 0)}
}

func difference(a, b int64) exact {
	n := a - b
	return exact{n, (n > a) == (b < 0)}
}

func product(a, b int64) exact {
	n := a * b
	if a == 0 || b == 0 {
		return exact{n, true}
	}
	// The signs tell of the least number times -1, which division wraps back.
	return exact{n, n/b == a && (n < 0) == ((a < 0) != (b < 0))}
}

// around are the bounds of the results: all, if one does not fit.
func around(first exact, others ...exact) Bounds {
	bounds := Bounds{first.n, first.n}
	fits := first.fits
	for _, e := range others {
		bounds = Bounds{min(bounds.Lo, e.n), max(bounds.Hi, e.n)}
		fits = fits && e.fits
	}
	if !fits {
		return all()
	}
	return bounds
}
