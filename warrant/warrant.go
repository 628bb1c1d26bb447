// Package warrant: facts about programs, with papers that anybody can check: see DOC.md.
package warrant

import (
	"warrant/api"
	"warrant/cert"
	"warrant/checker"
	"warrant/machine"
	"warrant/search"
	"warrant/source"
)

// Print prints a program (P3).
func Print(program string) (string, api.Errno) {
	p, e := source.Parse(program)
	if e != api.OK {
		return "", e
	}
	return p.Print(), api.OK
}

// Run runs a program (P4).
func Run(program string, inputs []int64, fuel int) (api.Trace, api.Errno) {
	p, e := source.Parse(program)
	if e != api.OK {
		return api.Trace{}, e
	}
	if len(inputs) > api.MaxInputs || fuel < 0 || fuel > api.MaxFuel {
		return api.Trace{}, api.ErrArg
	}
	return machine.Run(p, inputs, fuel), api.OK
}

// Encode writes a certificate (P5).
func Encode(c api.Cert) (string, api.Errno) { return cert.Encode(c) }

// Decode reads a certificate (P5).
func Decode(text string) (api.Cert, api.Errno) { return cert.Decode(text) }

// Analyse looks for a problem's solution, and writes a certificate (P7).
func Analyse(program string, problem int, t api.Tuning) (string, api.Errno) {
	p, e := source.Parse(program)
	if e != api.OK {
		return "", e
	}
	if problem < api.Reaching || problem > api.Ranges {
		return "", api.ErrProblem
	}
	if len(t.Picks) > api.MaxPicks || len(t.Thresholds) > api.MaxThresholds || t.Narrow < 0 || t.Narrow > api.MaxNarrow {
		return "", api.ErrTuning
	}
	return cert.Encode(search.Find(p, problem, t))
}

// Check takes a certificate, or not (P6).
func Check(program string, text string) ([]api.Node, api.Errno) {
	p, e := source.Parse(program)
	if e != api.OK {
		return nil, e
	}
	c, e := cert.Decode(text)
	if e != api.OK {
		return nil, e
	}
	if e := checker.Check(p, c); e != api.OK {
		return nil, e
	}
	return checker.Plain(c.Nodes), api.OK
}
