package coffer_test

import (
	"math"
	"slices"
	"strings"
	"testing"

	"coffer/api"
	"coffer/coffer"
)

func TestSplitExamples(t *testing.T) {
	for _, c := range []struct {
		value string
		p     api.Plan
		n     int
		tape  string
		want  []string
	}{
		{"\x07", share(1, 1), 2, "", []string{"\x07", "\x07"}},
		{"\x07", share(2, 1), 2, "\x07", []string{"\x07", "\x07"}},
		{"ab", disperse(2), 3, "", []string{"a", "b", "c"}},
		// The last group is filled up with a nought: 33 times x + 2 is 33 times
		// 3, that is 99, at 1; 0 at 2; 33 at 3.
		{"abc", disperse(2), 3, "", []string{"ac", "b\x00", "c\x21"}},
		// The polynomial x is 128 at 128 and 192 at 192.
		{"\x80", share(2, 1), 3, "\xc0", []string{"\x01", "\x02", "\x03"}},
	} {
		got, e := coffer.Split(c.value, c.p, c.n, c.tape)
		if e != api.OK || !slices.Equal(got, c.want) {
			t.Errorf("Split(%q, %v, %d, %q) = %q, %d, want %q", c.value, c.p, c.n, c.tape, got, e, c.want)
		}
	}
}

func TestSplitOfAllPlans(t *testing.T) {
	for n := 1; n <= api.MaxStores; n++ {
		for _, p := range plans(n) {
			for _, size := range sizes(p) {
				checkSplit(t, noise(size, uint32(size)), p, n)
			}
		}
	}
}

// checkSplit splits with just the tape that is needed, with one that goes on,
// and with one that is a byte too short.
func checkSplit(t *testing.T, value string, p api.Plan, n int) {
	t.Helper()
	need := tapeNeed(p, len(value))
	tape := noise(need, 77)
	want := referenceSplit(value, p, n, tape)
	for _, behind := range []string{"", "x", strings.Repeat("behind", 100)} {
		got, e := coffer.Split(value, p, n, tape+behind)
		if e != api.OK || !slices.Equal(got, want) {
			t.Errorf("Split(%q, %v, %d, %d + %d bytes) = %q, %d, want %q", value, p, n, need, len(behind), got, e, want)
		}
	}
	if need == 0 {
		return
	}
	if got, e := coffer.Split(value, p, n, tape[1:]); len(got) != 0 || e != api.ErrTape {
		t.Errorf("Split(%q, %v, %d, %d bytes) = %q, %d, want ErrTape", value, p, n, need-1, got, e)
	}
}

func TestSplitOfNothing(t *testing.T) {
	for n := 1; n <= api.MaxStores; n++ {
		for _, p := range plans(n) {
			got, e := coffer.Split("", p, n, "")
			if e != api.OK || len(got) != n || strings.Join(got, "") != "" {
				t.Errorf("Split of no bytes, %v, %d = %q, %d", p, n, got, e)
			}
		}
	}
}

// numbers has the ends of int and what lies about the limits.
func numbers() []int {
	all := []int{math.MinInt, math.MinInt + 1, -1 << 31, -256, math.MaxInt - 8, math.MaxInt - 1, math.MaxInt, 1 << 62, 1 << 32, 256, 257}
	for i := -2; i <= 11; i++ {
		all = append(all, i)
	}
	return all
}

func isPlan(p api.Plan, n int) bool {
	return n >= 1 && n <= api.MaxStores && slices.Contains(plans(n), p)
}

func TestPlans(t *testing.T) {
	for _, n := range numbers() {
		for _, first := range numbers() {
			for _, second := range numbers() {
				for _, mode := range []int{math.MinInt, -1, api.Share, api.Disperse, 2, math.MaxInt} {
					checkPlan(t, api.Plan{Mode: mode, T: first, L: second}, n)
				}
			}
		}
	}
}

func checkPlan(t *testing.T, p api.Plan, n int) {
	t.Helper()
	want := api.ErrPlan
	if isPlan(p, n) {
		want = api.OK
	}
	if got, e := coffer.Split("", p, n, ""); e != want || (len(got) == 0) != (e != api.OK) {
		t.Errorf("Split by %v at %d stores = %q, %d, want %d", p, n, got, e, want)
	}
	if want == api.OK {
		want = api.ErrFew
	}
	if got, e := coffer.Join(nil, p, n, 0); e != want || got != "" {
		t.Errorf("Join by %v at %d stores = %q, %d, want %d", p, n, got, e, want)
	}
}

func TestSplitErrors(t *testing.T) {
	for _, c := range []struct {
		what string
		size int
		p    api.Plan
		n    int
		tape int
		e    api.Errno
	}{
		{"no plan ahead of too big ahead of no tape", 61, share(3, 7), 8, 0, api.ErrPlan},
		{"no plan ahead of no tape", 1, share(3, 1), 2, 0, api.ErrPlan},
		{"no stores", 61, share(1, 1), 0, 0, api.ErrPlan},
		{"a store too many", 61, share(2, 1), 9, 0, api.ErrPlan},
		{"L with Disperse", 1, api.Plan{Mode: api.Disperse, T: 2, L: 2}, 8, 99, api.ErrPlan},
		{"too big ahead of no tape", 61, share(2, 1), 2, 0, api.ErrBig},
		{"too big, with a tape", 61, share(2, 1), 2, 61, api.ErrBig},
		{"too big, with none needed", 61, disperse(8), 8, 0, api.ErrBig},
		{"far too big", 1 << 20, share(1, 1), 1, 0, api.ErrBig},
		{"just big enough", 60, share(2, 1), 2, 60, api.OK},
		{"a tape of no bytes", 1, share(2, 1), 2, 0, api.ErrTape},
		{"a byte too few, the greatest T", 60, share(8, 1), 8, 419, api.ErrTape},
		{"just enough, the greatest T", 60, share(8, 1), 8, 420, api.OK},
		{"the greatest L", 60, share(1, 8), 8, 0, api.OK},
		{"the last group needs its tape too", 5, share(3, 2), 4, 5, api.ErrTape},
		{"and no more", 5, share(3, 2), 4, 6, api.OK},
	} {
		got, e := coffer.Split(strings.Repeat("v", c.size), c.p, c.n, strings.Repeat("t", c.tape))
		if e != c.e || (len(got) == 0) != (e != api.OK) {
			t.Errorf("%s: Split = %q, %d, want %d", c.what, got, e, c.e)
		}
	}
}

func TestSplitAnswersNewMemory(t *testing.T) {
	split := func() []string {
		got, _ := coffer.Split("value", share(2, 2), 4, "tape")
		return got
	}
	first, second := split(), split()
	want := referenceSplit("value", share(2, 2), 4, "tape")
	for i := range first[:cap(first)] {
		first[:cap(first)][i] = "written"
	}
	if third := split(); !slices.Equal(second, want) || !slices.Equal(third, want) {
		t.Errorf("Split = %q and %q after an answer was written into, want %q", second, third, want)
	}
}
