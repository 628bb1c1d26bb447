package warrant

import (
	"math"
	"reflect"
	"slices"
	"strings"
	"testing"

	"warrant/api"
)

func certOf(problem, grade int, nodes ...api.Node) api.Cert {
	return api.Cert{Problem: problem, Grade: grade, Nodes: nodes}
}

func factsNode(facts []int, ranks ...int) api.Node { return api.Node{Facts: facts, Ranks: ranks} }

func envNode(rank int, vals ...api.Val) api.Node {
	return api.Node{Reached: true, Rank: rank, Vals: vals}
}

func constantVal(n int64) api.Val { return api.Val{Kind: api.Constant, Lo: n} }

func anyVal() api.Val { return api.Val{Kind: api.Any} }

func rangeVal(lo, hi int64) api.Val { return api.Val{Kind: api.Range, Lo: lo, Hi: hi} }

func earlyVal(first int64, rank int) api.Val {
	return api.Val{Kind: api.Any, Early: true, First: first, Rank: rank}
}

// upTo is 0, 1, .. n-1.
func upTo(n int) []int {
	l := make([]int, n)
	for i := range l {
		l[i] = i
	}
	return l
}

// The texts' greatest and least numbers, and the greatest count, as bytes.
const (
	greatestNumber = "\xfe\xff\xff\xff\xff\xff\xff\xff\xff\x01"
	leastNumber    = "\xff\xff\xff\xff\xff\xff\xff\xff\xff\x01"
	greatestCount  = "\xff\xff\xff\xff\xff\xff\xff\xff\xff\x01"
)

type certText struct {
	c    api.Cert
	text string // without "WC" and the byte 1
}

func setTexts() []certText {
	var l []certText
	for p := api.Reaching; p <= api.Lazy; p++ {
		b := string(rune(p))
		l = append(l,
			certText{certOf(p, 1), b + "\x01\x00"},
			certText{certOf(p, 2), b + "\x02\x00"},
			certText{certOf(p, 1, api.Node{}), b + "\x01\x01\x00"},
			certText{certOf(p, 1, factsNode([]int{0}, 0)), b + "\x01\x01\x01\x00\x00"},
			certText{certOf(p, 2, factsNode([]int{0})), b + "\x02\x01\x01\x00"},
			certText{certOf(p, 1, factsNode([]int{1, 2, 6}, 4, 3, 4)), b + "\x01\x01\x03\x01\x00\x03\x04\x03\x04"},
			certText{certOf(p, 2, factsNode([]int{1, 2, 6}), api.Node{}, factsNode([]int{3})), b + "\x02\x03\x03\x01\x00\x03\x00\x01\x03"},
			certText{certOf(p, 1, factsNode([]int{127, 255, 384, 100000}, 127, 128, 16384, 100000)), b + "\x01\x01\x04\x7f\x7f\x80\x01\x9f\x8a\x06\x7f\x80\x01\x80\x80\x01\xa0\x8d\x06"},
			certText{certOf(p, 2, factsNode([]int{99999, 100000})), b + "\x02\x01\x02\x9f\x8d\x06\x00"},
			certText{certOf(p, 2, factsNode(upTo(127))), b + "\x02\x01\x7f" + strings.Repeat("\x00", 127)},
			certText{certOf(p, 2, factsNode(upTo(128))), b + "\x02\x01\x80\x01" + strings.Repeat("\x00", 128)},
			certText{certOf(p, 2, make([]api.Node, 60)...), b + "\x02\x3c" + strings.Repeat("\x00", 60)})
	}
	return l
}

func environmentTexts() []certText {
	return []certText{
		{certOf(5, 1), "\x05\x01\x00"}, {certOf(5, 2), "\x05\x02\x00"}, {certOf(6, 2), "\x06\x02\x00"},
		{certOf(5, 1, api.Node{}, envNode(0)), "\x05\x01\x02\x00\x01\x00\x00"},
		{certOf(5, 2, api.Node{}, envNode(0)), "\x05\x02\x02\x00\x01\x00"},
		{certOf(6, 2, api.Node{}, envNode(0)), "\x06\x02\x02\x00\x01\x00"},
		{certOf(5, 1, envNode(0, constantVal(0), anyVal(), earlyVal(0, 1))), "\x05\x01\x01\x01\x00\x03\x01\x00\x02\x00\x02\x01\x00\x01"},
		{certOf(5, 1, envNode(127, earlyVal(-64, 128)), envNode(100000, anyVal())), "\x05\x01\x02\x01\x7f\x01\x02\x01\x7f\x80\x01\x01\xa0\x8d\x06\x01\x02\x00"},
		{certOf(5, 1, envNode(99999, earlyVal(math.MinInt64, 100000), earlyVal(math.MaxInt64, 100000))), "\x05\x01\x01\x01\x9f\x8d\x06\x02\x02\x01" + leastNumber + "\xa0\x8d\x06\x02\x01" + greatestNumber + "\xa0\x8d\x06"},
		{certOf(5, 1, envNode(0, constantVal(math.MinInt64))), "\x05\x01\x01\x01\x00\x01\x01" + leastNumber},
		{certOf(5, 2, envNode(0, constantVal(math.MaxInt64), anyVal(), constantVal(-1), constantVal(64), constantVal(-65))), "\x05\x02\x01\x01\x05\x01" + greatestNumber + "\x02\x01\x01\x01\x80\x01\x01\x81\x01"},
		{certOf(5, 2, envNode(0, slices.Repeat([]api.Val{anyVal()}, 8)...)), "\x05\x02\x01\x01\x08" + strings.Repeat("\x02", 8)},
		{certOf(6, 2, envNode(0, rangeVal(0, 0), rangeVal(-3, -3), rangeVal(-2, 126), rangeVal(-1, 126))), "\x06\x02\x01\x01\x04\x00\x00\x05\x00\x03\x80\x01\x01\x7f"},
		{certOf(6, 2, envNode(0, rangeVal(math.MinInt64, math.MaxInt64), rangeVal(math.MinInt64, math.MinInt64), rangeVal(math.MaxInt64, math.MaxInt64))), "\x06\x02\x01\x01\x03" + leastNumber + greatestCount + leastNumber + "\x00" + greatestNumber + "\x00"},
		{certOf(6, 2, envNode(0, rangeVal(math.MinInt64, 0), rangeVal(0, math.MaxInt64), rangeVal(10, math.MaxInt64))), "\x06\x02\x01\x01\x03" + leastNumber + "\x80\x80\x80\x80\x80\x80\x80\x80\x80\x01\x00\xff\xff\xff\xff\xff\xff\xff\xff\x7f\x14\xf5\xff\xff\xff\xff\xff\xff\xff\x7f"},
		{certOf(6, 2, envNode(0, slices.Repeat([]api.Val{rangeVal(1, 2)}, 8)...), envNode(0, rangeVal(1, 2))), "\x06\x02\x02\x01\x08" + strings.Repeat("\x02\x01", 8) + "\x01\x01\x02\x01"},
		{certOf(6, 2, make([]api.Node, 60)...), "\x06\x02\x3c" + strings.Repeat("\x00", 60)},
	}
}

func certTexts() []certText { return append(setTexts(), environmentTexts()...) }

func TestCertTexts(t *testing.T) {
	for _, c := range certTexts() {
		want := "WC\x01" + c.text
		if text, e := Encode(c.c); text != want || e != api.OK {
			t.Errorf("P5: Encode(%+v) = %x, %d, want %x", c.c, text, e, want)
		}
		if got, e := Decode(want); !reflect.DeepEqual(got, c.c) || e != api.OK {
			t.Errorf("P5: Decode(%x) = %+v, %d, want %+v", want, got, e, c.c)
		}
	}
}

func TestTextOfTheExample(t *testing.T) {
	if text, e := Encode(certOf(2, 2, make([]api.Node, 3)...)); text != "\x57\x43\x01\x02\x02\x03\x00\x00\x00" || e != api.OK {
		t.Errorf("P5: %x, %d", text, e)
	}
}

// A list that is empty is as good as none.
func TestEmptyLists(t *testing.T) {
	bare := api.Node{Facts: []int{}, Ranks: make([]int, 0, 9), Vals: []api.Val{}}
	reached := bare
	reached.Reached = true
	for _, c := range []certText{
		{api.Cert{Problem: 1, Grade: 1, Nodes: []api.Node{}}, "\x01\x01\x00"}, {certOf(1, 1, bare), "\x01\x01\x01\x00"}, {certOf(4, 2, bare), "\x04\x02\x01\x00"},
		{certOf(5, 1, bare, reached), "\x05\x01\x02\x00\x01\x00\x00"}, {certOf(6, 2, bare, reached), "\x06\x02\x02\x00\x01\x00"},
	} {
		if text, e := Encode(c.c); text != "WC\x01"+c.text || e != api.OK {
			t.Errorf("P5: Encode(%+v) = %x, %d, want %x", c.c, text, e, c.text)
		}
	}
}

func notEncoded(t *testing.T, why string, certs ...api.Cert) {
	t.Helper()
	for i, c := range certs {
		if text, e := Encode(c); text != "" || e != api.ErrCert {
			t.Errorf("P5: %s, %d: Encode(%.200v) = %.40x, %d, want ErrCert", why, i, c, text, e)
		}
	}
}

func notDecoded(t *testing.T, why string, texts ...string) {
	t.Helper()
	for _, text := range texts {
		if c, e := Decode(text); e != api.ErrCert || !reflect.DeepEqual(c, api.Cert{}) {
			t.Errorf("P5: %s: Decode(%.40x) = %.200v, %d, want ErrCert", why, text, c, e)
		}
	}
}

// headed puts the head of a text ahead of each.
func headed(texts ...string) []string {
	l := make([]string, len(texts))
	for i, s := range texts {
		l[i] = "WC\x01" + s
	}
	return l
}

func TestNoProblemOrGrade(t *testing.T) {
	for _, n := range []int{math.MinInt, -1, 0, 7, 255, 256, 257, 258, 261, 1 << 32, 1<<32 + 1, math.MaxInt} {
		notEncoded(t, "no problem", certOf(n, 1), certOf(n, 2), certOf(n, 2, api.Node{}))
	}
	for _, n := range []int{math.MinInt, -1, 0, 3, 255, 256, 257, 258, 1 << 32, 1<<32 + 1, math.MaxInt} {
		notEncoded(t, "no grade", certOf(1, n), certOf(5, n), certOf(6, n, api.Node{}))
	}
	notEncoded(t, "least ranges", certOf(6, 1), certOf(6, 1, api.Node{}), certOf(6, 1, envNode(0, rangeVal(0, 0))))
	notEncoded(t, "nothing", api.Cert{})
	for problem := range 256 {
		for grade := range 256 {
			if problem >= 1 && problem <= 6 && (grade == 2 || grade == 1 && problem < 6) {
				continue
			}
			notDecoded(t, "problem and grade", "WC\x01"+string([]byte{byte(problem), byte(grade), 0}))
		}
	}
}

func TestNoSets(t *testing.T) {
	for p := api.Reaching; p <= api.Lazy; p++ {
		notEncoded(t, "facts don't rise", certOf(p, 2, factsNode([]int{0, 0})), certOf(p, 2, factsNode([]int{1, 0})), certOf(p, 2, factsNode([]int{0, 5, 9, 9})), certOf(p, 1, factsNode([]int{2, 1}, 0, 0)), certOf(p, 2, api.Node{}, factsNode([]int{7, 7})))
		notEncoded(t, "no facts", certOf(p, 2, factsNode([]int{-1})), certOf(p, 2, factsNode([]int{-2, -1})), certOf(p, 2, factsNode([]int{100001})), certOf(p, 2, factsNode([]int{0, math.MaxInt})), certOf(p, 2, factsNode([]int{math.MinInt})), certOf(p, 1, factsNode([]int{math.MaxInt, math.MinInt}, 0, 0)), certOf(p, 1, factsNode([]int{100000, 100001}, 0, 0)))
		notEncoded(t, "no ranks", certOf(p, 1, factsNode([]int{0}, -1)), certOf(p, 1, factsNode([]int{0}, 100001)), certOf(p, 1, factsNode([]int{0, 1}, 0, math.MinInt)), certOf(p, 1, factsNode([]int{0, 1}, math.MaxInt, 0)))
		notEncoded(t, "not as many ranks", certOf(p, 1, factsNode([]int{0})), certOf(p, 1, factsNode(nil, 0)), certOf(p, 1, factsNode([]int{0, 1}, 0)), certOf(p, 1, factsNode([]int{0, 1}, 0, 0, 0)), certOf(p, 2, factsNode([]int{0}, 0)), certOf(p, 2, factsNode(nil, 0)))
		for g := api.Least; g <= api.Sound; g++ {
			notEncoded(t, "an environment", certOf(p, g, envNode(0)), certOf(p, g, api.Node{Rank: 1}), certOf(p, g, api.Node{Rank: -1}), certOf(p, g, api.Node{Vals: []api.Val{{}}}), certOf(p, g, api.Node{Vals: []api.Val{constantVal(0)}}), certOf(p, g, api.Node{}, envNode(0, anyVal())))
		}
	}
}

func TestNoEnvironments(t *testing.T) {
	for _, c := range []struct{ problem, grade int }{{5, 1}, {5, 2}, {6, 2}} {
		p, g := c.problem, c.grade
		notEncoded(t, "facts", certOf(p, g, factsNode([]int{0})), certOf(p, g, factsNode([]int{0}, 0)), certOf(p, g, factsNode(nil, 0)), certOf(p, g, api.Node{Reached: true, Facts: []int{0}}), certOf(p, g, api.Node{Reached: true, Ranks: []int{0}}))
		notEncoded(t, "not reached, and more", certOf(p, g, api.Node{Rank: 1}), certOf(p, g, api.Node{Rank: -1}), certOf(p, g, api.Node{Vals: []api.Val{{}}}), certOf(p, g, api.Node{Vals: []api.Val{constantVal(0)}}), certOf(p, g, api.Node{Vals: []api.Val{rangeVal(0, 0)}}))
		notEncoded(t, "no rank", certOf(p, g, envNode(-1)), certOf(p, g, envNode(100001)), certOf(p, g, envNode(math.MinInt)), certOf(p, g, envNode(math.MaxInt)))
		for _, kind := range []int{math.MinInt, -1, 0, 4, 256, 257, 258, 259, math.MaxInt} {
			notEncoded(t, "no kind", certOf(p, g, envNode(0, api.Val{Kind: kind})), certOf(p, g, api.Node{}, envNode(0, api.Val{Kind: kind, Lo: 1, Hi: 2})))
		}
		good := constantVal(1)
		if p == api.Ranges {
			good = rangeVal(1, 1)
		}
		notEncoded(t, "many values", certOf(p, g, envNode(0, slices.Repeat([]api.Val{good}, 9)...)), certOf(p, g, envNode(0, slices.Repeat([]api.Val{good}, 1<<20)...)))
		notEncoded(t, "a later value", certOf(p, g, envNode(0, good, api.Val{})), certOf(p, g, envNode(0, good), envNode(0, good, good, api.Val{Kind: good.Kind, Lo: 1, Hi: 1, First: 1})))
	}
	notEncoded(t, "a rank without LEAST", certOf(5, 2, envNode(1)), certOf(6, 2, envNode(1)))
}

func TestNoValues(t *testing.T) {
	for g := api.Least; g <= api.Sound; g++ {
		for _, kind := range []int{api.Constant, api.Any} {
			for _, v := range []api.Val{{Hi: 1}, {Hi: math.MinInt64}, {First: 1}, {Rank: 1}, {Rank: -1}, {First: 1, Rank: 1}} {
				v.Kind = kind
				notEncoded(t, "a field that must be 0", certOf(5, g, envNode(0, v)))
			}
		}
		notEncoded(t, "a constant that was early", certOf(5, g, envNode(0, api.Val{Kind: api.Constant, Early: true})), certOf(5, g, envNode(0, api.Val{Kind: api.Constant, Early: true, First: 1, Rank: 1})))
		notEncoded(t, "any with a number", certOf(5, g, envNode(0, api.Val{Kind: api.Any, Lo: 1})), certOf(5, g, envNode(0, api.Val{Kind: api.Any, Lo: 1, Early: true, Rank: 1})), certOf(5, g, envNode(0, api.Val{Kind: api.Any, Hi: 1, Early: true, Rank: 1})))
		notEncoded(t, "a range among constants", certOf(5, g, envNode(0, rangeVal(0, 0))), certOf(5, g, envNode(0, rangeVal(1, 2))))
	}
	notEncoded(t, "an early rank that is not above the node's", certOf(5, 1, envNode(0, earlyVal(0, 0))), certOf(5, 1, envNode(3, earlyVal(0, 3))), certOf(5, 1, envNode(3, earlyVal(0, 2))), certOf(5, 1, envNode(0, earlyVal(0, -1))), certOf(5, 1, envNode(100000, earlyVal(0, 100000))), certOf(5, 1, envNode(0), envNode(9, earlyVal(0, 5))))
	notEncoded(t, "an early rank above MaxRank", certOf(5, 1, envNode(0, earlyVal(0, 100001))), certOf(5, 1, envNode(100000, earlyVal(0, 100001))), certOf(5, 1, envNode(0, earlyVal(0, math.MaxInt))))
	notEncoded(t, "early without LEAST", certOf(5, 2, envNode(0, earlyVal(0, 1))), certOf(5, 2, envNode(0, api.Val{Kind: api.Any, Early: true})))
	notEncoded(t, "no range", certOf(6, 2, envNode(0, constantVal(0))), certOf(6, 2, envNode(0, anyVal())), certOf(6, 2, envNode(0, rangeVal(1, 0))), certOf(6, 2, envNode(0, rangeVal(math.MaxInt64, math.MinInt64))), certOf(6, 2, envNode(0, rangeVal(0, -1))))
	for _, v := range []api.Val{{Early: true}, {First: 1}, {Rank: 1}, {Early: true, First: 1, Rank: 1}} {
		v.Kind = api.Range
		notEncoded(t, "a range with more", certOf(6, 2, envNode(0, v)))
	}
}

func TestNoTexts(t *testing.T) {
	notDecoded(t, "head", "", "W", "WC", "WC\x01", "wc\x01\x01\x01\x00", "CW\x01\x01\x01\x00", "WC\x00\x01\x01\x00", "WC\x02\x01\x01\x00", "WC\x81\x01\x01\x00", "WC1\x01\x01\x00", " WC\x01\x01\x01\x00", "WCC\x01\x01\x01\x00", "\x01\x01\x00")
	notDecoded(t, "count of nodes", headed("\x01\x01", "\x01\x01\x80", "\x01\x01\x80\x00", "\x01\x01\x81\x00\x00", "\x01\x01\x3d"+strings.Repeat("\x00", 61), "\x06\x02\x3d"+strings.Repeat("\x00", 61), "\x01\x02"+greatestCount+"\x00", "\x01\x01\x02\x00", "\x01\x01\x00\x00")...)
	notDecoded(t, "count of facts", headed("\x01\x02\x01\x80\x00", "\x01\x02\x01\x81\x00\x00", "\x01\x02\x01\x01", "\x01\x02\x01\x02\x00", "\x01\x02\x01"+greatestCount+"\x00", "\x01\x02\x01\x80\x80\x80\x80\x80\x80\x80\x80\x80\x01\x00", "\x01\x02\x01\xff\xff\xff\xff\x0f\x00", "\x01\x02\x01\xff\xff\xff\xff\xff\xff\xff\xff\xff\x02\x00")...)
	notDecoded(t, "facts", headed("\x01\x02\x01\x01\xa1\x8d\x06", "\x01\x02\x01\x02\xa0\x8d\x06\x00", "\x01\x02\x01\x02\x00\xa0\x8d\x06", "\x01\x02\x01\x03\x9f\x8d\x06\x00\x00", "\x01\x02\x01\x02\x00"+greatestCount, "\x01\x02\x01\x02\x01\xfe\xff\xff\xff\xff\xff\xff\xff\xff\x01", "\x01\x02\x01\x01"+greatestCount, "\x01\x02\x01\x01\x80\x00", "\x01\x02\x01\x01\x85\x00")...)
	notDecoded(t, "ranks", headed("\x01\x01\x01\x01\x00", "\x01\x02\x01\x01\x00\x00", "\x01\x01\x01\x01\x00\xa1\x8d\x06", "\x01\x01\x01\x01\x00\x80\x00", "\x01\x01\x01\x02\x00\x00\x00", "\x01\x01\x01\x01\x00\x00\x00", "\x01\x01\x01\x01\x00"+greatestCount)...)
	notDecoded(t, "reached", headed("\x05\x02\x01\x02", "\x05\x02\x01\x02\x00", "\x05\x01\x01\xff\x00\x00", "\x06\x02\x01\x02\x00", "\x05\x02\x01\x81\x00\x00", "\x05\x02\x01\x80\x00")...)
	notDecoded(t, "a node's rank", headed("\x05\x01\x01\x01\xa1\x8d\x06\x00", "\x05\x01\x01\x01\x80\x00\x00", "\x05\x01\x01\x01"+greatestCount+"\x00", "\x05\x02\x01\x01\x00\x00", "\x06\x02\x01\x01\x00\x00", "\x05\x01\x01\x00\x00\x00")...)
	notDecoded(t, "count of values", headed("\x05\x02\x01\x01\x09"+strings.Repeat("\x02", 9), "\x06\x02\x01\x01\x09"+strings.Repeat("\x00", 18), "\x05\x02\x01\x01\x81\x00\x02", "\x05\x02\x01\x01"+greatestCount+"\x02", "\x05\x02\x01\x01\x02\x02")...)
	for kind := range 256 {
		if kind != api.Constant && kind != api.Any {
			notDecoded(t, "kind", headed("\x05\x02\x01\x01\x01"+string([]byte{byte(kind)}), "\x05\x01\x01\x01\x00\x01"+string([]byte{byte(kind), 0}), "\x05\x02\x01\x01\x01"+string([]byte{byte(kind), 0, 0}))...)
		}
	}
	notDecoded(t, "early", headed("\x05\x01\x01\x01\x00\x01\x02", "\x05\x01\x01\x01\x00\x01\x02\x02", "\x05\x01\x01\x01\x00\x01\x02\x02\x00\x01", "\x05\x01\x01\x01\x00\x01\x02\x01\x00\x00", "\x05\x01\x01\x01\x03\x01\x02\x01\x00\x03", "\x05\x01\x01\x01\x00\x01\x02\x01\x00\xa1\x8d\x06", "\x05\x01\x01\x01\xa0\x8d\x06\x01\x02\x01\x00\xa0\x8d\x06", "\x05\x01\x01\x01\x00\x01\x02\x01\x00\x81\x00", "\x05\x02\x01\x01\x01\x02\x00", "\x05\x02\x01\x01\x01\x02\x01\x00\x01")...)
	notDecoded(t, "numbers", headed("\x05\x02\x01\x01\x01\x01\x80\x00", "\x05\x02\x01\x01\x01\x01\xff\xff\xff\xff\xff\xff\xff\xff\xff\x02", "\x05\x02\x01\x01\x01\x01\xff\xff\xff\xff\xff\xff\xff\xff\xff\x81\x00", "\x05\x01\x01\x01\x00\x01\x02\x01\x80\x00\x01")...)
	notDecoded(t, "bounds", headed("\x06\x02\x01\x01\x01\x00\x80\x80\x80\x80\x80\x80\x80\x80\x80\x01", "\x06\x02\x01\x01\x01\x00"+greatestCount, "\x06\x02\x01\x01\x01"+greatestNumber+"\x01", "\x06\x02\x01\x01\x01\xfd\xff\xff\xff\xff\xff\xff\xff\xff\x01"+greatestCount, "\x06\x02\x01\x01\x01\x00\x80\x00", "\x06\x02\x01\x01\x01\x80\x00\x00", "\x06\x02\x01\x01\x01\x00")...)
}

// No text is the beginning of another.
func TestBytesLeftOverOrLacking(t *testing.T) {
	for _, c := range certTexts() {
		text := "WC\x01" + c.text
		notDecoded(t, "a byte left over", text+"\x00", text+"\x01", text+text)
		for i := range len(text) {
			notDecoded(t, "bytes lack", text[:i])
		}
	}
}

func TestMaxNodes(t *testing.T) {
	for _, c := range []api.Cert{certOf(1, 1), certOf(4, 2), certOf(5, 1), certOf(5, 2), certOf(6, 2)} {
		c.Nodes = make([]api.Node, 60)
		text, e := Encode(c)
		got, f := Decode(text)
		if e != api.OK || f != api.OK || !reflect.DeepEqual(got, c) {
			t.Errorf("P5: 60 nodes of problem %d: %d, %d", c.Problem, e, f)
		}
		for _, n := range []int{61, 128, 256, 1 << 20} {
			c.Nodes = make([]api.Node, n)
			notEncoded(t, "many nodes", c)
		}
	}
}

// lengthy has a text of just n bytes, n being great: nine, and one for each fact.
func lengthy(n int) api.Cert {
	return certOf(api.Live, api.Sound, factsNode(upTo(n-9)))
}

func TestMaxCert(t *testing.T) {
	c := lengthy(60000)
	text, e := Encode(c)
	if len(text) != 60000 || e != api.OK {
		t.Fatalf("P5: %d bytes, %d", len(text), e)
	}
	if got, e := Decode(text); e != api.OK || !reflect.DeepEqual(got, c) {
		t.Errorf("P5: a text of MaxCert bytes: %d", e)
	}
	notEncoded(t, "one byte more", lengthy(60001), certOf(2, 2, c.Nodes[0], api.Node{}))
	longer := "WC\x01\x02\x02\x01" + "\xd8\xd4\x03" + strings.Repeat("\x00", 59992)
	notDecoded(t, "one byte more", longer, text+"\x00", text+text, strings.Repeat(text, 100), strings.Repeat("WC\x01", 1<<20))
	if got, e := Decode("WC\x01\x02\x02\x01" + "\xd7\xd4\x03" + longer[10:]); e != api.OK || !reflect.DeepEqual(got, c) {
		t.Errorf("P5: the longer text is long for another reason than its facts: %d", e)
	}

	ranked := certOf(1, 1, factsNode(upTo(29994), make([]int, 29994)...), api.Node{}, api.Node{})
	if text, e := Encode(ranked); len(text) != 59999 || e != api.OK {
		t.Errorf("P5: with ranks: %d bytes, %d", len(text), e)
	}
	ranked.Nodes[0].Ranks[29993] = 128
	if text, e := Encode(ranked); len(text) != 60000 || e != api.OK {
		t.Errorf("P5: with ranks: %d bytes, %d", len(text), e)
	}
	ranked.Nodes[0].Ranks[0] = 128
	notEncoded(t, "a rank of two bytes more", ranked)
}

// P1: the greatest lists end soon, good ones and bad ones.
func TestEncodeOfGreatLists(t *testing.T) {
	all := upTo(api.MaxRank + 1)
	notEncoded(t, "all facts at all nodes", certOf(1, 2, slices.Repeat([]api.Node{factsNode(all)}, 60)...), certOf(1, 1, slices.Repeat([]api.Node{factsNode(all, all...)}, 60)...))
	great := upTo(1 << 24)
	notEncoded(t, "facts above MaxRank", certOf(1, 2, slices.Repeat([]api.Node{factsNode(great)}, 60)...), certOf(1, 1, slices.Repeat([]api.Node{factsNode(great, great...)}, 60)...), certOf(1, 1, slices.Repeat([]api.Node{factsNode(nil, great...)}, 60)...), certOf(5, 1, factsNode(great)))
}

// P2: what is handed in stays, with its spare room.
func TestEncodeChangesNothing(t *testing.T) {
	make1 := func() api.Cert {
		facts, ranks := []int{1, 5, 7, 9}, []int{3, 2, 1, 0}
		nodes := []api.Node{{Facts: facts[:2], Ranks: ranks[:2]}, {Facts: facts[2:3], Ranks: ranks[2:3]}, {Facts: facts}}
		return api.Cert{Problem: 1, Grade: 1, Nodes: nodes[:2]}
	}
	make5 := func() api.Cert {
		vals := []api.Val{constantVal(4), earlyVal(2, 9), anyVal()}
		return certOf(5, 1, envNode(3, vals[:2]...), envNode(4, vals...), api.Node{})
	}
	whole := func(c api.Cert) []api.Node { return c.Nodes[:cap(c.Nodes)] }
	for _, build := range []func() api.Cert{make1, make5} {
		c, untouched := build(), build()
		first, e := Encode(c)
		if e != api.OK || !reflect.DeepEqual(c, untouched) || !reflect.DeepEqual(whole(c), whole(untouched)) {
			t.Errorf("P2: Encode, %d, makes %+v of %+v", e, c, untouched)
		}
		again, _ := Encode(build())
		spoil(c)
		if first != again {
			t.Errorf("P2: two answers to one certificate: %x, %x", first, again)
		}
	}
}

// spoil writes into all lists of c and into their spare room, and tells of lists that were written into already.
func spoil(c api.Cert) bool {
	shared := false
	for _, n := range c.Nodes {
		for _, l := range [][]int{n.Facts, n.Ranks} {
			l = l[:cap(l)]
			shared = shared || slices.Contains(l, -99)
			for i := range l {
				l[i] = -99
			}
		}
		vals := n.Vals[:cap(n.Vals)]
		for i := range vals {
			shared = shared || vals[i].Kind == -99
			vals[i].Kind = -99
		}
	}
	nodes := c.Nodes[:cap(c.Nodes)]
	for i := range nodes {
		nodes[i] = api.Node{Rank: -99}
	}
	return shared
}

// P2: each list of an answer is new memory.
func TestDecodeKeepsNothing(t *testing.T) {
	for _, c := range certTexts() {
		text := "WC\x01" + c.text
		first, _ := Decode(text)
		second, _ := Decode(text)
		if spoil(first) {
			t.Errorf("P2: two lists of Decode(%x) share memory", text)
		}
		third, _ := Decode(text)
		if !reflect.DeepEqual(second, c.c) || !reflect.DeepEqual(third, c.c) {
			t.Errorf("P2: an answer of Decode(%x) hangs on another one", text)
		}
	}
}
