package linear_test

import (
	"fmt"
	"strings"
	"testing"
	"time"

	"flume/api"
	"flume/linear"
)

// soon has a call end, and not after as many steps as there are orders: 12 pasts have 479,001,600.
func soon(t *testing.T, what string, f func()) {
	t.Helper()
	ended := make(chan struct{})
	go func() {
		defer close(ended)
		f()
	}()
	select {
	case <-ended:
	case <-time.After(15 * time.Second):
		t.Fatalf("P24.1, P24.3: %s: it does not end soon", what)
	}
}

// bulky are 12 pasts that all overlap, by what they are.
func bulky() map[string][]api.Past {
	full := strings.Repeat("x", api.MaxData)
	never := tells(0, closed, 1, 2) // nobody closes
	free := tells(0, belowIt, 1, 2)
	l := map[string][]api.Past{
		"12 that are free":               several(12, free),
		"11 that are free, 1 never":      append(several(11, free), never),
		"8 free, 4 Truncates, 1st never": append(append([]api.Past{never}, several(7, free)...), several(4, open(trunc, 1, "", 1))...),
		"7 free, 4 Appends, 1 never":     append(append(several(4, open(add, 0, full, 1)), several(7, free)...), never),
		"7 Reads of what comes":          append(append(several(4, open(async, 0, full, 1)), several(7, reads(4, full, 1, 2))...), never),
		"4 Closes":                       append(several(4, open(shut, 0, "", 1)), several(8, past(add, 0, "", result(api.ErrMany, 0, ""), 1, 2))...),
		"11 failures, 1 that works":      append(several(11, past(syncs, 0, "", result(failed, 0, ""), 1, 2)), past(shut, 0, "", result(failed, 0, ""), 1, 2)),
	}
	for _, name := range []string{"12 Appends, turned", "11 Appends, 1 never", "8 Appends, 4 not done", "4 Appends, 4 not done, 3 free, 1 never"} {
		var ps []api.Past
		for i := range int64(12) {
			ps = append(ps, past(add, 0, full, result(api.OK, 12-i, ""), 1, 2))
		}
		l[name] = ps
	}
	l["11 Appends, 1 never"][3] = never
	for i := range 4 {
		l["8 Appends, 4 not done"][3*i] = open(add, 0, full, 1)
		ps := l["4 Appends, 4 not done, 3 free, 1 never"]
		ps[i] = past(async, 0, full, result(api.OK, int64(2*i+2), ""), 1, 2)
		ps[4+i], ps[8+i] = open(add, 0, full, 1), free
	}
	l["4 Appends, 4 not done, 3 free, 1 never"][11] = never
	return l
}

// Check and Most end soon for 12 pasts that all overlap, whether there is an order or not.
func TestEndsSoon(t *testing.T) {
	want := map[string]string{
		"12 that are free":                       "[0 1 2 3 4 5 6 7 8 9 10 11] true 0, 12 0",
		"11 that are free, 1 never":              "[] false 0, 11 0",
		"8 free, 4 Truncates, 1st never":         "[] false 0, 11 0",
		"7 free, 4 Appends, 1 never":             "[] false 0, 11 0",
		"7 Reads of what comes":                  "[] false 0, 11 0",
		"4 Closes":                               "[4 5 6 7 8 9 10 11] true 0, 9 0",
		"11 failures, 1 that works":              "[0 1 2 3 4 5 6 7 8 9 10 11] true 0, 12 0",
		"12 Appends, turned":                     "[11 10 9 8 7 6 5 4 3 2 1 0] true 0, 12 0",
		"11 Appends, 1 never":                    "[] false 0, 8 0",
		"8 Appends, 4 not done":                  "[11 10 0 8 7 3 5 4 6 2 1] true 0, 12 0",
		"4 Appends, 4 not done, 3 free, 1 never": "[] false 0, 11 0",
	}
	for what, ps := range bulky() {
		soon(t, what, func() {
			order, found, err := linear.Check(1, ps)
			most, fault := linear.Most(1, ps)
			if got := fmt.Sprint(order, found, err) + ", " + fmt.Sprint(most, fault); got != want[what] {
				t.Errorf("P24.1, P24.3: %s: %s, want %s", what, got, want[what])
			}
			if linear.Legal(1, ps, order) != found {
				t.Errorf("P24.2: %s: Check's order %v", what, order)
			}
		})
	}
}

// Data of many bytes: what may be no record is no record, and nothing takes long.
func TestLongData(t *testing.T) {
	long := strings.Repeat("x", 1<<22)
	ps := several(12, past(add, 0, long, result(api.ErrLong, 0, ""), 1, 2))
	soon(t, "long data", func() {
		holds(t, "too long", 1, ps, upTo(12), true, 12)
		holds(t, "too long to be done", 1, []api.Past{appended(long, 1, 1, 2), reads(1, long, 1, 2), open(add, 0, long, 1)}, nil, false, 0)
	})
	most := long[:api.MaxData]
	holds(t, "as long as may be", 1, []api.Past{appended(most, 1, 1, 2), reads(1, most, 1, 2), open(add, 0, most, 1)}, []int{0, 1}, true, 3)
	holds(t, "one byte more", 1, []api.Past{appended(long[:api.MaxData+1], 1, 1, 2)}, nil, false, 0)
}
