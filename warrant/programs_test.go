package warrant

import (
	"math"
	"reflect"
	"strings"
	"testing"

	"warrant/api"
)

const example = "l: x = input\n if x < 10 goto l\n output x\nreturn"

func printed(t *testing.T, text, want string) {
	t.Helper()
	if got, e := Print(text); got != want || e != api.OK {
		t.Errorf("Print(%.80q) = %.80q, %d, want %.80q", text, got, e, want)
	}
}

// refused asks both calls, Run with arguments that are wrong besides: the text's fault comes first.
func refused(t *testing.T, want api.Errno, texts ...string) {
	t.Helper()
	for _, text := range texts {
		if got, e := Print(text); got != "" || e != want {
			t.Errorf("P3: Print(%.80q) = %.80q, %d, want %d", text, got, e, want)
		}
		for _, fuel := range []int{9, -1} {
			trace, e := Run(text, make([]int64, 101), fuel)
			if e != want || !reflect.DeepEqual(trace, api.Trace{}) {
				t.Errorf("P4: Run(%.80q) = %v, %d, want %d", text, trace, e, want)
			}
		}
	}
}

func TestPrint(t *testing.T) {
	printed(t, example, "l: x = input\nif x < 10 goto l\noutput x\nreturn\n")
	printed(t, "return", "return\n")
	printed(t, "return\n", "return\n")
	printed(t, "\t\r \treturn\r\n\r\n \t\n", "return\n")
	printed(t, "#\n  #x y z\n#:\nreturn\n#", "return\n")
	printed(t, "# \xff\x00 \u2028 anything\nreturn", "return\n")
	printed(t, "x\t=\r1\n\n\na:\t output  \t x\ngoto a", "x = 1\na: output x\ngoto a\n")
	printed(t, "a = b\na = b + c\na = b - -1\na = 0 * c\na = b / 2\nreturn", "a = b\na = b + c\na = b - -1\na = 0 * c\na = b / 2\nreturn\n")
	printed(t, "if a < b goto l\nif a <= 1 goto l\nif -1 == b goto l\nif 1 != 1 goto l\nl: return", "if a < b goto l\nif a <= 1 goto l\nif -1 == b goto l\nif 1 != 1 goto l\nl: return\n")
	printed(t, "x: x = x\ngoto x", "x: x = x\ngoto x\n")
	printed(t, "l: return\nm: return", "l: return\nm: return\n")
	printed(t, "goto l\nx = 1 / 0\nl: return", "goto l\nx = 1 / 0\nl: return\n")
	printed(t, "output 9223372036854775807\noutput -9223372036854775808\nreturn", "output 9223372036854775807\noutput -9223372036854775808\nreturn\n")
}

// Blanks are three bytes and no others.
func TestOtherWhiteSpaceIsNoBlank(t *testing.T) {
	for _, blank := range []string{"\v", "\f", "\x00", "\u0085", "\u00a0", "\u2003", "\x85"} {
		refused(t, api.ErrSyntax, "output"+blank+"1\nreturn", "return"+blank, blank+"\nreturn")
	}
}

func TestSyntax(t *testing.T) {
	refused(t, api.ErrSyntax,
		"x", "x = ", "= 1", "x == 1\nreturn", "x = 1 2\nreturn", "x = 1 +\nreturn", "x = 1 + 2 3\nreturn", "x = 1 + 2 + 3\nreturn",
		"x = 1 < 2\nreturn", "x = 1 % 2\nreturn", "x = - 1\nreturn", "x=1\nreturn", "5 = 1\nreturn", "x = y:\nreturn", "x := 1\nreturn",
		"x = input 1\nreturn", "x = input + 1\nreturn", "x = 1 + input\nreturn", "x = goto\nreturn", "output = 1\nreturn", "if = 1\nreturn",
		"output", "output input\nreturn", "output 1 2\nreturn", "output 1 + 2\nreturn", "Output 1\nreturn",
		"if 1 < 2 l\nl: return", "if 1 < 2 goto\nreturn", "if 1 < 2 goto l l\nl: return", "if 1 < 2 goto 1\nreturn", "if 1 < 2 goto if\nreturn",
		"if 1 > 2 goto l\nl: return", "if 1 = 2 goto l\nl: return", "if 1 + 2 goto l\nl: return", "if input < 2 goto l\nl: return", "if 1 < 2 GOTO l\nl: return",
		"goto", "goto l:\nl: return", "goto 0\nreturn", "goto input\nreturn", "return 0", "return #",
		"l:", "l:\nreturn", ": return", "l : return", "l:return", "l:: return", "1: return", "if: return", "lllllll: return", "l: m: return", "l: # hm",
		"return # hm", "return \\\n", "x = 1 # one\nreturn", "return;return", "a: x  =  1\n\n# hm\nif x<2 goto a",
		"x = 9223372036854775808\nreturn", "x = -9223372036854775809\nreturn", "x = 00\nreturn", "x = -0\nreturn", "x = 01\nreturn", "x = -01\nreturn", "x = +1\nreturn", "x = 1_0\nreturn")
}

func TestNoProgram(t *testing.T) {
	refused(t, api.ErrProgram,
		"", "\n\n", " \t\r", "# return",
		"x = 1", "x = 1 + 2", "x = input", "output 1", "l: if 1 < 2 goto l", "return\noutput 1", "a: x  =  1\n\n# hm\nif x < 2 goto a",
		"goto l", "goto m\nl: return", "if 1 < 2 goto l\nreturn", "x = 1\ngoto x", "goto l\n# l: return",
		"l: return\nl: return", "l: goto m\nm: goto l\nl: return")
}

// ErrSyntax comes first, wherever it stands.
func TestSyntaxAheadOfProgram(t *testing.T) {
	refused(t, api.ErrSyntax, "goto l\nx", "l: return\nl: return\nl: returns", strings.Repeat("return\n", 61)+"x", "a = b + c\na = d + e\na = f + g\na = h + i\nreturn\nA = 1", "#"+strings.Repeat(" ", 3000))
}

func TestLimits(t *testing.T) {
	printed(t, strings.Repeat("return\n", 60), strings.Repeat("return\n", 60))
	refused(t, api.ErrProgram, strings.Repeat("return\n", 61), strings.Repeat("return\n", 400))

	comment := "#" + strings.Repeat("x", 2992) + "\n"
	printed(t, comment+"return", "return\n")
	refused(t, api.ErrSyntax, comment+"return\n", comment+" return", strings.Repeat("\n", 3001), strings.Repeat("return\n", 1<<20))
	refused(t, api.ErrProgram, strings.Repeat("\n", 3000))

	eight := "a = b + c\nd = e + f\nif g < h goto g\ng: return\n"
	printed(t, eight, eight)
	refused(t, api.ErrProgram, "output i\n"+eight, eight+"i = input\nreturn", eight+"if a < i goto g\nreturn")

	printed(t, "abcde1 = 1\nabcde1: return", "abcde1 = 1\nabcde1: return\n")
	refused(t, api.ErrSyntax, "abcdef1 = 1\nreturn", "output abcdef1\nreturn", "abcdef1: return", "goto abcdef1")
}

func TestRunOfTheExample(t *testing.T) {
	got, e := Run(example, []int64{3, 12}, 9)
	want := api.Trace{End: api.Returned, Outputs: []int64{12}, Steps: []api.Step{{Node: 0, Vals: []int64{0}}, {Node: 1, Vals: []int64{3}}, {Node: 0, Vals: []int64{3}}, {Node: 1, Vals: []int64{12}}, {Node: 2, Vals: []int64{12}}, {Node: 3, Vals: []int64{12}}}}
	if e != api.OK || !reflect.DeepEqual(got, want) {
		t.Errorf("P4: %v, %d, want %v", got, e, want)
	}
}

func TestRunArguments(t *testing.T) {
	for _, c := range []struct {
		inputs, fuel int
		want         api.Errno
	}{
		{0, 0, api.OK}, {0, 2000, api.OK}, {100, 2000, api.OK}, {100, 0, api.OK},
		{101, 9, api.ErrArg}, {1 << 20, 9, api.ErrArg}, {0, -1, api.ErrArg}, {0, 2001, api.ErrArg}, {0, math.MinInt, api.ErrArg}, {0, math.MaxInt, api.ErrArg}, {101, -1, api.ErrArg},
	} {
		got, e := Run("l: x = 1\ngoto l", make([]int64, c.inputs), c.fuel)
		if e != c.want {
			t.Errorf("P4: Run with %d inputs, fuel %d: %d, want %d", c.inputs, c.fuel, e, c.want)
		}
		if e != api.OK && !reflect.DeepEqual(got, api.Trace{}) {
			t.Errorf("P1: Run answers %v beside %d", got, e)
		}
		if e == api.OK && (got.End != api.NoFuel || len(got.Steps) != c.fuel) {
			t.Errorf("P4: Run with fuel %d ends %d after %d steps", c.fuel, got.End, len(got.Steps))
		}
	}
}

// A run takes all of MaxInputs inputs, in order, the greatest and the least number among them.
func TestRunInputs(t *testing.T) {
	inputs := make([]int64, 100)
	for i := range inputs {
		inputs[i] = int64(i)
	}
	inputs[0], inputs[99] = math.MinInt64, math.MaxInt64
	got, e := Run("l: x = input\noutput x\ngoto l", inputs, 2000)
	if e != api.OK || got.End != api.Starved || !reflect.DeepEqual(got.Outputs, inputs) || len(got.Steps) != 301 {
		t.Errorf("P4: end %d, %v, %d steps, %d", got.End, got.Outputs, len(got.Steps), e)
	}
}

// P2: the inputs stay as they are, and what is done to an answer is not seen anywhere else.
func TestRunKeepsNothing(t *testing.T) {
	text := "l: x = input\ny = x * 2\noutput x\noutput y\noutput z\ngoto l"
	whole := []int64{4, 5, 6, 7, 8}
	inputs := whole[:3]
	first, _ := Run(text, inputs, 99)
	want, _ := Run(text, []int64{4, 5, 6}, 99)
	if !reflect.DeepEqual(whole, []int64{4, 5, 6, 7, 8}) || !reflect.DeepEqual(first, want) {
		t.Errorf("P2: inputs %v, answer %v", whole, first)
	}
	whole[0], whole[3] = 77, 77
	if !reflect.DeepEqual(first, want) {
		t.Errorf("P2: the answer hangs on the inputs' memory")
	}
	fill(first.Outputs)
	for _, s := range first.Steps {
		before := s.Vals[0]
		if before == -99 {
			t.Fatalf("P2: two lists of one answer share memory")
		}
		fill(s.Vals)
	}
	if !reflect.DeepEqual(whole, []int64{77, 5, 6, 77, 8}) {
		t.Errorf("P2: the answer shares memory with the inputs")
	}
	if again, _ := Run(text, []int64{4, 5, 6}, 99); !reflect.DeepEqual(again, want) {
		t.Errorf("P2: an answer hangs on an earlier one")
	}
}

// fill writes into a list and into its spare room.
func fill(l []int64) {
	l = l[:cap(l)]
	for i := range l {
		l[i] = -99
	}
}
