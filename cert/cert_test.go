package cert

import (
	"math"
	"strings"
	"testing"

	"warrant/api"
)

func TestCounts(t *testing.T) {
	for _, c := range []struct {
		n    uint64
		text string
	}{
		{0, "\x00"}, {1, "\x01"}, {127, "\x7f"}, {128, "\x80\x01"}, {129, "\x81\x01"}, {300, "\xac\x02"},
		{16383, "\xff\x7f"}, {16384, "\x80\x80\x01"}, {100000, "\xa0\x8d\x06"},
		{1<<56 - 1, "\xff\xff\xff\xff\xff\xff\xff\x7f"}, {1 << 56, "\x80\x80\x80\x80\x80\x80\x80\x80\x01"},
		{1<<63 - 1, "\xff\xff\xff\xff\xff\xff\xff\xff\x7f"}, {1 << 63, "\x80\x80\x80\x80\x80\x80\x80\x80\x80\x01"},
		{math.MaxUint64, "\xff\xff\xff\xff\xff\xff\xff\xff\xff\x01"},
	} {
		var w writer
		w.count(c.n)
		if string(w.text) != c.text {
			t.Errorf("the count %d is written %x, want %x", c.n, w.text, c.text)
		}
		r := reader{rest: c.text + "\x05"}
		if n := r.count(); n != c.n || r.bad || r.rest != "\x05" {
			t.Errorf("%x is the count %d, %v, want %d", c.text, n, r.bad, c.n)
		}
	}
}

func TestNoCounts(t *testing.T) {
	for _, text := range []string{
		"", "\x80", "\xff\xff", strings.Repeat("\xff", 9), strings.Repeat("\xff", 10),
		"\x80\x00", "\x81\x00", "\xff\xff\x00", strings.Repeat("\x80", 9) + "\x00", strings.Repeat("\xff", 9) + "\x00",
		strings.Repeat("\x80", 9) + "\x02", strings.Repeat("\xff", 9) + "\x03", strings.Repeat("\xff", 9) + "\x7f",
		strings.Repeat("\x80", 9) + "\x80\x01", strings.Repeat("\x80", 9) + "\x81\x00", strings.Repeat("\x80", 10) + "\x01", strings.Repeat("\xff", 5000),
	} {
		r := reader{rest: text}
		if n := r.count(); n != 0 || !r.bad {
			t.Errorf("%.20x is the count %d, want none", text, n)
		}
	}
}

func TestNumbers(t *testing.T) {
	for _, c := range []struct {
		n     int64
		count uint64
	}{
		{0, 0}, {-1, 1}, {1, 2}, {-2, 3}, {63, 126}, {-64, 127}, {64, 128}, {-65, 129},
		{math.MaxInt64, math.MaxUint64 - 1}, {math.MinInt64, math.MaxUint64}, {math.MaxInt64 - 1, math.MaxUint64 - 3}, {math.MinInt64 + 1, math.MaxUint64 - 2},
	} {
		var got, want writer
		got.number(c.n)
		want.count(c.count)
		if string(got.text) != string(want.text) {
			t.Errorf("the number %d is written %x, want %x", c.n, got.text, want.text)
		}
		r := reader{rest: string(want.text)}
		if n := r.number(); n != c.n || r.bad || r.rest != "" {
			t.Errorf("%x is the number %d, %v, want %d", want.text, n, r.bad, c.n)
		}
	}
}

// What is read once something was wrong is 0, though there are bytes left.
func TestBadStaysBad(t *testing.T) {
	r := reader{rest: "\x02\x01\x01\x01"}
	if r.flag() || !r.bad {
		t.Errorf("2 is no flag")
	}
	if r.octet() != 0 || r.flag() || r.count() != 0 || r.number() != 0 || r.small(9) != 0 || !r.bad {
		t.Errorf("something is read after a fault")
	}
}

func TestSmall(t *testing.T) {
	for _, c := range []struct {
		text string
		most int
		n    int
		bad  bool
	}{
		{"\x00", 0, 0, false}, {"\x01", 0, 0, true}, {"\x3c", 60, 60, false}, {"\x3d", 60, 0, true}, {"\x00", -1, 0, true},
		{"\xa0\x8d\x06", api.MaxRank, api.MaxRank, false}, {"\xa1\x8d\x06", api.MaxRank, 0, true},
		{"\xff\xff\xff\xff\xff\xff\xff\xff\xff\x01", api.MaxRank, 0, true}, {"\x80\x80\x80\x80\x80\x80\x80\x80\x80\x01", api.MaxRank, 0, true}, {"\x80\x80\x80\x80\x80\x80\x80\x80\x80\x01", -1, 0, true},
	} {
		r := reader{rest: c.text}
		if n := r.small(c.most); n != c.n || r.bad != c.bad {
			t.Errorf("%x, at most %d, is %d, %v, want %d, %v", c.text, c.most, n, r.bad, c.n, c.bad)
		}
	}
}

func TestShapes(t *testing.T) {
	known := 0
	for problem := -1; problem <= 300; problem++ {
		for grade := -1; grade <= 300; grade++ {
			want := 1 <= problem && problem <= 6 && (grade == 2 || grade == 1 && problem < 6)
			if got := (shape{problem, grade}).isKnown(); got != want {
				t.Errorf("problem %d, grade %d: known %v", problem, grade, got)
			}
			if want {
				known++
			}
		}
	}
	if known != 11 {
		t.Errorf("%d shapes, want 11", known)
	}
}
