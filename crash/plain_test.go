package crash_test

import (
	"fmt"
	"math/big"
	"reflect"
	"slices"
	"strings"
	"testing"

	"flume/api"
	"flume/disk"
)

// Fates by the chapter's words alone: all of them, listed in their order, and found again by looking.

// plainFates lists the fates of a disk that has few.
func plainFates(d *disk.Disk) (list []api.Fate) {
	for dir := range d.Pending() + 1 {
		for _, ns := range plainChoices(d.Tails(dir)) {
			list = append(list, fate(dir, ns...))
		}
	}
	return
}

// plainChoices lists each choice of N of the tails, by the first one's, then by the second one's.
func plainChoices(tails []api.Tail) (list [][]int) {
	if len(tails) == 0 {
		return [][]int{nil}
	}
	for n := range tails[0].N + 1 {
		for _, rest := range plainChoices(tails[1:]) {
			list = append(list, append([]int{n}, rest...))
		}
	}
	return
}

// plainWays counts the fates of any disk.
func plainWays(d *disk.Disk) *big.Int {
	all := new(big.Int)
	for dir := range d.Pending() + 1 {
		n := big.NewInt(1)
		for _, t := range d.Tails(dir) {
			n.Mul(n, big.NewInt(int64(t.N)+1))
		}
		all.Add(all, n)
	}
	return all
}

// plainNumber looks for the fate that does what f does without its Junk.
func plainNumber(d *disk.Disk, f api.Fate) int64 {
	want := api.Fate{Dir: max(0, min(f.Dir, d.Pending()))}
	for k, t := range d.Tails(want.Dir) {
		n := 0
		if k < len(f.Keeps) {
			n = max(0, min(f.Keeps[k].N, t.N))
		}
		want.Keeps = append(want.Keeps, api.Keep{N: n})
	}
	return int64(slices.IndexFunc(plainFates(d), func(x api.Fate) bool { return alike(x, want) }))
}

func fate(dir int, ns ...int) api.Fate {
	f := api.Fate{Dir: dir}
	for _, n := range ns {
		f.Keeps = append(f.Keeps, api.Keep{N: n})
	}
	return f
}

// alike tells whether two fates are the same, where a list that is nil and one that is empty are.
func alike(a, b api.Fate) bool {
	return a.Dir == b.Dir && slices.EqualFunc(a.Keeps, b.Keeps, func(x, y api.Keep) bool {
		return x.N == y.N && string(x.Junk) == string(y.Junk)
	})
}

// same fails the test if got is not want.
func same(t *testing.T, what string, got, want any) {
	t.Helper()
	if !reflect.DeepEqual(got, want) {
		t.Fatalf("%s: %v, want %v", what, got, want)
	}
}

// tell says all that can be asked of a disk without changing it.
func tell(d *disk.Disk) string {
	var s strings.Builder
	fmt.Fprintf(&s, "up %v, files %q, lasting %q, counts %v", d.Up(), d.Files(), d.Lasting(), d.Count())
	for dir := range d.Pending() + 1 {
		fmt.Fprintf(&s, ", %d: %v", dir, d.Tails(dir))
	}
	return s.String()
}

// show says all that a disk is: what can be asked of it, which bytes of it are marked, how much fits, and which faults are armed.
func show(d *disk.Disk) string {
	s := tell(d)
	c := d.Copy()
	c.Arm()
	for _, f := range c.Files() {
		s += fmt.Sprint("; Sync: ", c.Sync(f.Name))
	}
	s += "; " + tell(c)
	c = d.Copy()
	for i := range 8 {
		name := fmt.Sprint("new", i)
		s += fmt.Sprint("; ", safely(func() api.Errno { return c.Create(name) }))
		s += fmt.Sprint("; ", safely(func() api.Errno { _, err := c.Append(name, []byte("xyz")); return err }))
	}
	return s + "; " + tell(c)
}

// safely tells by a number of its own that a call panicked.
func safely(f func() api.Errno) (err api.Errno) {
	defer func() {
		if recover() != nil {
			err = -1
		}
	}()
	return f()
}
