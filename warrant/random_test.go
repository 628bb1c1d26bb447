package warrant

import (
	"math/rand"
	"reflect"
	"strconv"
	"strings"
	"testing"

	"warrant/api"
)

func pick(r *rand.Rand, l ...string) string { return l[r.Intn(len(l))] }

func someBlank(r *rand.Rand) string {
	return pick(r, " ", " ", " ", "\t", "\r", "  ", " \t\r ")
}

func someVariable(r *rand.Rand) string {
	return pick(r, "x", "y", "z", "l0", "l1", "abcdef")
}

func someNumber(r *rand.Rand) string {
	return pick(r, "0", "1", "-1", "2", "-2", "3", "7", "-10", "100", "4611686018427387904", "3037000500", "9223372036854775807", "-9223372036854775808")
}

func someOperand(r *rand.Rand) string {
	if r.Intn(2) == 0 {
		return someNumber(r)
	}
	return someVariable(r)
}

func someLabel(r *rand.Rand, nodes int) string { return "l" + strconv.Itoa(r.Intn(nodes)) }

func someStatement(r *rand.Rand, nodes int) []string {
	switch r.Intn(9) {
	case 0:
		return []string{someVariable(r), "=", someOperand(r)}
	case 1, 2, 3:
		return []string{someVariable(r), "=", someOperand(r), pick(r, "+", "-", "*", "/"), someOperand(r)}
	case 4:
		return []string{someVariable(r), "=", "input"}
	case 5:
		return []string{"output", someOperand(r)}
	case 6, 7:
		return []string{"if", someOperand(r), pick(r, "<", "<=", "==", "!="), someOperand(r), "goto", someLabel(r, nodes)}
	}
	return []string{pick(r, "goto", "goto", "return")}
}

// someProgram is a program that can be, but for 1 in some 40, its words laid out at random.
func someProgram(r *rand.Rand) string {
	nodes := 1 + r.Intn(14)
	var b strings.Builder
	for i := range nodes {
		words := someStatement(r, nodes)
		if i == nodes-1 && r.Intn(40) > 0 {
			words = []string{pick(r, "goto", "return")}
		}
		if words[0] == "goto" {
			words = append(words, someLabel(r, nodes))
		}
		b.WriteString(pick(r, "", "", "", "\n", "# l0: x\n", " \t\n"))
		b.WriteString("l" + strconv.Itoa(i) + ":")
		for _, w := range words {
			b.WriteString(someBlank(r) + w)
		}
		b.WriteString(pick(r, "", " ", "\r") + "\n")
	}
	return b.String()
}

// spoiled has some bytes or words taken out, put in or put twice.
func spoiled(r *rand.Rand, text string) string {
	for range 1 + r.Intn(2) {
		i := r.Intn(len(text) + 1)
		j := min(len(text), i+r.Intn(4))
		switch r.Intn(4) {
		case 0:
			text = text[:i] + text[j:]
		case 1:
			text = text[:j] + text[i:]
		default:
			put := pick(r, " ", "\n", ":", "#", "-", "0", "1", "a", "<", "=", "+", "\x00", "\xff", "\v", "\u00a0", " input ", " if ", " goto ", " return ", "\nreturn\n", " x ", " A ", "99999999999999999999", "l0: ")
			text = text[:i] + put + text[j:]
		}
	}
	return text
}

func compare(t *testing.T, text string, inputs []int64, fuel int) api.Errno {
	t.Helper()
	o, want := judge(text)
	got, e := Print(text)
	trace, f := Run(text, inputs, fuel)
	if e != want || f != want {
		t.Fatalf("P3, P4: %q: Print %d, Run %d, want %d", text, e, f, want)
	}
	if want != api.OK {
		if got != "" || !reflect.DeepEqual(trace, api.Trace{}) {
			t.Fatalf("P1: %q: %q and %v beside an error", text, got, trace)
		}
		return want
	}
	if got != o.printed {
		t.Fatalf("P3: Print(%q) = %q, want %q", text, got, o.printed)
	}
	if r := o.run(inputs, fuel); !reflect.DeepEqual(trace, r) {
		t.Fatalf("P4: Run(%q, %v, %d) = %v, want %v", text, inputs, fuel, trace, r)
	}
	if again, e := Print(got); len(got) <= api.MaxText && (again != got || e != api.OK) {
		t.Fatalf("P3: what is printed prints as %q, %d, not %q", again, e, got)
	}
	return want
}

func someInputs(r *rand.Rand) []int64 {
	inputs := make([]int64, r.Intn(8))
	for i := range inputs {
		inputs[i], _ = strconv.ParseInt(someNumber(r), 10, 64)
	}
	return inputs
}

func TestRandomPrograms(t *testing.T) {
	r := rand.New(rand.NewSource(1))
	var ends [5]int
	for range 6000 {
		text, inputs, fuel := someProgram(r), someInputs(r), r.Intn(60)
		if compare(t, text, inputs, fuel) == api.OK {
			trace, _ := Run(text, inputs, fuel)
			ends[trace.End]++
		}
	}
	for end := api.Returned; end <= api.NoFuel; end++ {
		if ends[end] < 100 {
			t.Errorf("only %d runs end %d", ends[end], end)
		}
	}
}

func TestRandomSpoiledTexts(t *testing.T) {
	r := rand.New(rand.NewSource(2))
	var answers [10]int
	for range 12000 {
		answers[compare(t, spoiled(r, someProgram(r)), someInputs(r), r.Intn(60))]++
	}
	for _, e := range []api.Errno{api.OK, api.ErrSyntax, api.ErrProgram} {
		if answers[e] < 100 {
			t.Errorf("only %d texts are answered %d", answers[e], e)
		}
	}
}

func FuzzTexts(f *testing.F) {
	f.Add(example, int64(3), int64(12), 9)
	f.Add("x = input\ny = x / -1\noutput y\nif y != x goto l\nl: return", int64(-1<<63), int64(0), 2000)
	f.Add("# hm\nl: goto l", int64(0), int64(0), 0)
	f.Fuzz(func(t *testing.T, text string, a, b int64, fuel int) {
		if fuel < 0 || fuel > api.MaxFuel {
			t.Skip()
		}
		compare(t, text, []int64{a, b}, fuel)
	})
}
