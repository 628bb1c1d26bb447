package warrant

import (
	"math"
	"math/rand"
	"reflect"
	"testing"

	"warrant/api"
)

func oneOf[T any](r *rand.Rand, l ...T) T { return l[r.Intn(len(l))] }

func someInt64(r *rand.Rand) int64 {
	if r.Intn(4) == 0 {
		return int64(r.Uint64()) >> r.Intn(64)
	}
	return oneOf[int64](r, 0, 1, -1, 63, 64, -64, -65, 8191, 8192, -8192, -8193, math.MaxInt64, math.MinInt64, math.MaxInt64-1, math.MinInt64+1, 1<<62, -1<<62)
}

func someRank(r *rand.Rand) int {
	return oneOf(r, 0, 1, 2, 127, 128, 16383, 16384, 99999, 100000, r.Intn(100001))
}

func someVal(r *rand.Rand, c api.Cert, nodeRank int) api.Val {
	if c.Problem == api.Ranges {
		lo, hi := someInt64(r), someInt64(r)
		return rangeVal(min(lo, hi), max(lo, hi))
	}
	if r.Intn(3) == 0 {
		return constantVal(someInt64(r))
	}
	if c.Grade == api.Least && nodeRank < api.MaxRank && r.Intn(2) == 0 {
		return earlyVal(someInt64(r), oneOf(r, nodeRank+1, api.MaxRank, nodeRank+1+r.Intn(api.MaxRank-nodeRank)))
	}
	return anyVal()
}

func someSet(r *rand.Rand, grade int) api.Node {
	var n api.Node
	for f := someRank(r) / 2; f <= api.MaxRank && r.Intn(6) > 0; f += 1 + oneOf(r, 0, 0, 0, 126, 127, 128, 129, r.Intn(30000)) {
		n.Facts = append(n.Facts, f)
		if grade == api.Least {
			n.Ranks = append(n.Ranks, someRank(r))
		}
	}
	return n
}

func someCert(r *rand.Rand) api.Cert {
	c := api.Cert{Problem: 1 + r.Intn(6), Grade: 1 + r.Intn(2)}
	if c.Problem == api.Ranges {
		c.Grade = api.Sound
	}
	for range oneOf(r, 0, 1, 1, 2, 3, 5, 60) {
		if c.Problem < api.Constants {
			c.Nodes = append(c.Nodes, someSet(r, c.Grade))
			continue
		}
		n := api.Node{Reached: r.Intn(4) > 0}
		if n.Reached && c.Grade == api.Least {
			n.Rank = someRank(r)
		}
		for range r.Intn(9) {
			if n.Reached {
				n.Vals = append(n.Vals, someVal(r, c, n.Rank))
			}
		}
		c.Nodes = append(c.Nodes, n)
	}
	return c
}

// bent has one field or length changed, to what may be right or wrong.
func bent(r *rand.Rand, c api.Cert) api.Cert {
	small := oneOf(r, -1, 0, 0, 1, 1, 2, 3, 5, 6, 7, 100000, 100001, math.MaxInt, math.MinInt)
	if len(c.Nodes) == 0 || r.Intn(8) == 0 {
		switch r.Intn(3) {
		case 0:
			c.Problem = small
		case 1:
			c.Grade = small
		default:
			c.Nodes = append(c.Nodes, make([]api.Node, r.Intn(3))...)
		}
		return c
	}
	n := &c.Nodes[r.Intn(len(c.Nodes))]
	for range 50 {
		switch r.Intn(10) {
		case 0:
			n.Reached = !n.Reached
		case 1:
			n.Rank = small
		case 2:
			n.Facts = append(n.Facts, small)
		case 3:
			n.Ranks = append(n.Ranks, small)
		case 4:
			n.Vals = append(n.Vals, api.Val{Kind: small})
		case 5, 6:
			l := oneOf(r, n.Facts, n.Ranks)
			if len(l) == 0 {
				continue
			}
			i := r.Intn(len(l))
			l[i] = oneOf(r, small, l[i]+1, l[i]-1)
		default:
			if len(n.Vals) == 0 {
				continue
			}
			bendVal(r, &n.Vals[r.Intn(len(n.Vals))], small)
		}
		break
	}
	return c
}

func bendVal(r *rand.Rand, v *api.Val, small int) {
	switch r.Intn(6) {
	case 0:
		v.Kind = oneOf(r, small, 1, 2, 3)
	case 1:
		v.Lo = oneOf(r, int64(small), v.Hi, v.Hi+1)
	case 2:
		v.Hi = oneOf(r, int64(small), v.Lo, v.Lo-1)
	case 3:
		v.Early = !v.Early
	case 4:
		v.First = int64(small)
	default:
		v.Rank = oneOf(r, small, v.Rank+1, v.Rank-1)
	}
}

func compareCert(t *testing.T, c api.Cert) bool {
	t.Helper()
	want, ok := written(c)
	text, e := Encode(c)
	if text != want || ok != (e == api.OK) || !ok && e != api.ErrCert {
		t.Fatalf("P5: Encode(%+v) = %x, %d, want %x, %v", c, text, e, want, ok)
	}
	if ok {
		if again, e := Decode(text); e != api.OK || !reflect.DeepEqual(again, plain(c)) {
			t.Fatalf("P5: Decode(%x) = %+v, %d, want %+v", text, again, e, c)
		}
	}
	return ok
}

func compareCertText(t *testing.T, text string) bool {
	t.Helper()
	want, ok := read(text)
	c, e := Decode(text)
	if !reflect.DeepEqual(c, want) || ok != (e == api.OK) || !ok && e != api.ErrCert {
		t.Fatalf("P5: Decode(%x) = %+v, %d, want %+v, %v", text, c, e, want, ok)
	}
	if ok {
		if again, e := Encode(c); e != api.OK || again != text {
			t.Fatalf("P5: Encode(%+v) = %x, %d, want %x", c, again, e, text)
		}
	}
	return ok
}

func TestRandomCerts(t *testing.T) {
	r := rand.New(rand.NewSource(3))
	for range 8000 {
		c := someCert(r)
		if !compareCert(t, c) {
			t.Fatalf("%+v is a certificate", c)
		}
	}
}

func TestRandomBentCerts(t *testing.T) {
	r := rand.New(rand.NewSource(4))
	var good, bad [7]int
	for range 40000 {
		c := someCert(r)
		problem := c.Problem
		c = bent(r, c)
		if compareCert(t, c) {
			good[problem]++
		} else {
			bad[problem]++
		}
	}
	for p := api.Reaching; p <= api.Ranges; p++ {
		if good[p] < 100 || bad[p] < 100 {
			t.Errorf("problem %d: only %d are certificates still, and %d are not", p, good[p], bad[p])
		}
	}
}

func TestRandomSpoiledCertTexts(t *testing.T) {
	r := rand.New(rand.NewSource(5))
	var good, bad int
	for range 40000 {
		text, _ := Encode(someCert(r))
		b := []byte(text)
		i := 3 + r.Intn(len(b)-3)
		switch r.Intn(5) {
		case 0:
			b = append(b[:i], b[i+1:]...)
		case 1:
			b = append(b[:i], append([]byte{oneOf[byte](r, 0, 1, 2, 127, 128, 129, 255)}, b[i:]...)...)
		case 2:
			b[i] ^= 1 << r.Intn(8)
		default:
			b[i] = oneOf[byte](r, 0, 1, 2, 3, 127, 128, 255)
		}
		if compareCertText(t, string(b)) {
			good++
		} else {
			bad++
		}
	}
	if good < 1000 || bad < 1000 {
		t.Errorf("only %d texts are certificates still, and %d are not", good, bad)
	}
}

// All texts of up to five bytes from a few, behind each problem and grade.
func TestAllShortCertTexts(t *testing.T) {
	bytes := []byte{0, 1, 2, 3, 127, 128, 129}
	var grow func(text []byte, more int)
	grow = func(text []byte, more int) {
		compareCertText(t, string(text))
		if more > 0 {
			for _, b := range bytes {
				grow(append(text[:len(text):len(text)], b), more-1)
			}
		}
	}
	for problem := range byte(8) {
		for grade := range byte(4) {
			grow([]byte{'W', 'C', 1, problem, grade}, 5)
		}
	}
	for first := range 256 {
		for second := range 256 {
			compareCertText(t, string([]byte{byte(first), byte(second), 1, 1, 1, 0}))
		}
		compareCertText(t, string([]byte{'W', 'C', byte(first), 1, 1, 0}))
	}
}

func FuzzCertTexts(f *testing.F) {
	for _, c := range certTexts() {
		f.Add("WC\x01" + c.text)
	}
	f.Fuzz(func(t *testing.T, text string) { compareCertText(t, text) })
}
