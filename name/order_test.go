package name_test

import (
	"bytes"
	"cmp"
	"math"
	"math/rand"
	"slices"
	"strings"
	"testing"

	"flume/name"
)

func wantOrder(t *testing.T, what string, names []string, want ...string) {
	t.Helper()
	if got := name.Order(names); !slices.Equal(got, want) {
		t.Errorf("P8.3: %s: Order(%q) is %q, want %q", what, names, got, want)
	}
}

// plainOrder puts each name that may be into its place among those ahead of it.
func plainOrder(names []string) []string {
	var l []string
	for _, s := range names {
		at, there := slices.BinarySearchFunc(l, s, func(a, b string) int {
			return bytes.Compare([]byte(a), []byte(b))
		})
		if plainMay(s) && !there {
			l = slices.Insert(l, at, s)
		}
	}
	return l
}

func TestOrderOfNone(t *testing.T) {
	wantOrder(t, "nil", nil)
	wantOrder(t, "no name", []string{})
	wantOrder(t, "none that may be", []string{"", "B", "-a", "a.", "é", strings.Repeat("a", 65)})
}

func TestOrderOfNames(t *testing.T) {
	wantOrder(t, "one", []string{"a"}, "a")
	wantOrder(t, "one that comes twice", []string{"a", "a"}, "a")
	wantOrder(t, "one that comes often", []string{"a", "b", "a", "b", "a"}, "a", "b")
	wantOrder(t, "in order", []string{"a", "b", "c"}, "a", "b", "c")
	wantOrder(t, "from the last on", []string{"c", "b", "a"}, "a", "b", "c")
	wantOrder(t, "some that may not be", []string{"", "b", "B", "a", "-", "a-", "a "}, "a", "b")
	wantOrder(t, "a front of another", []string{"abc", "ab", "abcd", "a"}, "a", "ab", "abc", "abcd")
	wantOrder(t, "digits and marks", []string{"az", "a9", "a0", "aa", "a.a", "a-a", "9", "10", "2"}, "10", "2", "9", "a-a", "a.a", "a0", "a9", "aa", "az")
	long := strings.Repeat("a", 63)
	wantOrder(t, "the longest", []string{long + "b", long + "a", long, long + "ab"}, long, long+"a", long+"b")
	wantOrder(t, "a log's files",
		[]string{"segment-next", "seg-0000000000000010.log", "catalog-next", "seg-000000000000000f.log", "catalog"},
		"catalog", "catalog-next", "seg-000000000000000f.log", "seg-0000000000000010.log", "segment-next")
}

func TestSegmentsStandInTheOrderOfTheirNumbers(t *testing.T) {
	nums := []int64{math.MaxInt64, 256, 10, 1, 9, 16, 15, 255, math.MaxInt64 - 1, 2, 1 << 60, 1 << 32}
	var names []string
	for _, num := range nums {
		names = append(names, segment(t, num))
	}
	slices.Sort(nums)
	var got []int64
	for _, s := range name.Order(names) {
		num, _ := name.Number(s)
		got = append(got, num)
	}
	if !slices.Equal(got, nums) {
		t.Errorf("what follows: the segments stand as %d, want %d", got, nums)
	}
	r := rand.New(rand.NewSource(83))
	for range 2000 {
		a, b := 1+r.Int63()>>r.Intn(63), 1+r.Int63()>>r.Intn(63)
		if strings.Compare(segment(t, a), segment(t, b)) != cmp.Compare(a, b) {
			t.Errorf("what follows: the names of %d and %d stand otherwise than they do", a, b)
		}
	}
}

func TestDrawnNames(t *testing.T) {
	const signs = "ab0.-B"
	r := rand.New(rand.NewSource(84))
	for range 3000 {
		names := make([]string, r.Intn(40))
		for i := range names {
			for range r.Intn(4) {
				names[i] += string(signs[r.Intn(len(signs))])
			}
		}
		wantOrder(t, "drawn", names, plainOrder(names)...)
	}
}

func TestOrderOfMany(t *testing.T) {
	const many = 1 << 16
	var names, want []string
	for i := range many {
		want = append(want, segment(t, int64(i+1)))
		names = append(names, segment(t, int64(many-i)), "NONE", segment(t, int64(i/2+1)))
	}
	if got := name.Order(names); !slices.Equal(got, want) {
		t.Errorf("P8.3: of many: %d names, want %d", len(got), many)
	}
}

func TestNamesHandedInStay(t *testing.T) {
	for _, names := range [][]string{{"c", "B", "a", "c", "", "b"}, {"c", "b", "a"}, {"a", "a", "b"}, {"B", "a"}} {
		room := append(slices.Clone(names), "spare", "room")
		kept := slices.Clone(room)
		name.Order(room[:len(names)])
		if !slices.Equal(room, kept) {
			t.Errorf("P0.3: what was handed in, or its spare room, is %q, was %q", room, kept)
		}
	}
}

func TestOrderIsNewMemory(t *testing.T) {
	for _, names := range [][]string{{"c", "B", "a", "c", "", "b"}, {"a", "b", "c"}, {"a", "a", "b", "b", "c"}} {
		kept := slices.Clone(names)
		want := []string{"a", "b", "c"}
		first, second := name.Order(names), name.Order(names)
		clear(names)
		if !slices.Equal(first, want) {
			t.Errorf("P0.3: writing into what was handed in changed the answer: %q", first)
		}
		copy(names, kept)
		_ = append(first, "x", "y")
		clear(first[:cap(first)])
		if !slices.Equal(second, want) || !slices.Equal(names, kept) || !slices.Equal(name.Order(names), want) {
			t.Errorf("P0.3: writing into an answer changed another, %q, or what was handed in, %q", second, names)
		}
	}
}

// What lies in the spare room of what is handed in is not looked at.
func TestSpareRoomIsNotTaken(t *testing.T) {
	room := []string{"b", "a", "d", "c"}
	wantOrder(t, "with spare room", room[:2], "a", "b")
	wantOrder(t, "no name, with spare room", room[:0])
}
