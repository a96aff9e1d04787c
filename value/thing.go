package value

import (
	"cmp"
	"slices"
	"strings"

	"flume/api"
	"flume/real"
)

// thing is a value that may be, as its own kind has it.
type thing interface {
	kind() int
	size() int
	// compareAlike holds it against a thing of the same kind.
	compareAlike(other thing) int
	appendKey(b []byte) []byte
	// plain shares no memory with what the thing was made of.
	plain() api.Value
}

// The kinds' things.
type (
	nilThing  struct{}
	boolThing int64 // 0 or 1
	intThing  int64
	realThing float64
	textThing string
	listThing []thing
)

// What stands in keys beside the bytes of the kinds.
const (
	zeroMark = 0xff // behind 00 in a text: the 00 is one of its bytes
	endMark  = 0x01 // behind 00 in a text: the text has ended
	listEnd  = 0x00 // below every kind, so that the shorter list is ahead
	topBit   = 1 << 63
)

func compare(a, b thing) int {
	if a.kind() != b.kind() {
		return cmp.Compare(a.kind(), b.kind())
	}
	return a.compareAlike(b)
}

func (t nilThing) kind() int  { return api.VNil }
func (t boolThing) kind() int { return api.VBool }
func (t intThing) kind() int  { return api.VInt }
func (t realThing) kind() int { return api.VReal }
func (t textThing) kind() int { return api.VText }
func (t listThing) kind() int { return api.VList }

func (t nilThing) size() int  { return 1 }
func (t boolThing) size() int { return 1 }
func (t intThing) size() int  { return 1 }
func (t realThing) size() int { return 1 }
func (t textThing) size() int { return 1 + len(t) }

func (t listThing) size() int {
	sum := 1
	for _, inner := range t {
		sum += inner.size()
	}
	return sum
}

func (t nilThing) compareAlike(other thing) int { return 0 }

func (t boolThing) compareAlike(other thing) int {
	o, _ := other.(boolThing)
	return cmp.Compare(t, o)
}

func (t intThing) compareAlike(other thing) int {
	o, _ := other.(intThing)
	return cmp.Compare(t, o)
}

func (t realThing) compareAlike(other thing) int {
	o, _ := other.(realThing)
	// Not cmp's order: that has -0 like +0, and NaN ahead.
	return real.Compare(float64(t), float64(o))
}

func (t textThing) compareAlike(other thing) int {
	o, _ := other.(textThing)
	return cmp.Compare(t, o)
}

func (t listThing) compareAlike(other thing) int {
	o, _ := other.(listThing)
	return slices.CompareFunc(t, o, compare)
}

func (t nilThing) appendKey(b []byte) []byte {
	return append(b, api.VNil)
}

func (t boolThing) appendKey(b []byte) []byte {
	return append(b, api.VBool, byte(t))
}

func (t intThing) appendKey(b []byte) []byte {
	// The top bit inverted, so that the numbers below 0 come ahead.
	return appendEight(append(b, api.VInt), uint64(t)^topBit)
}

func (t realThing) appendKey(b []byte) []byte {
	return appendEight(append(b, api.VReal), real.Key(float64(t)))
}

func (t textThing) appendKey(b []byte) []byte {
	b = append(b, api.VText)
	for i := range len(t) {
		b = append(b, t[i])
		if t[i] == 0 {
			b = append(b, zeroMark)
		}
	}
	return append(b, 0, endMark)
}

func (t listThing) appendKey(b []byte) []byte {
	b = append(b, api.VList)
	for _, inner := range t {
		b = inner.appendKey(b)
	}
	return append(b, listEnd)
}

// appendEight puts the highest byte first: so bytes sort as numbers do.
func appendEight(b []byte, n uint64) []byte {
	for shift := 56; shift >= 0; shift -= 8 {
		b = append(b, byte(n>>shift))
	}
	return b
}

func (t nilThing) plain() api.Value {
	return api.Value{Kind: api.VNil}
}

func (t boolThing) plain() api.Value {
	return api.Value{Kind: api.VBool, Int: int64(t)}
}

func (t intThing) plain() api.Value {
	return api.Value{Kind: api.VInt, Int: int64(t)}
}

func (t realThing) plain() api.Value {
	return api.Value{Kind: api.VReal, Real: real.Canon(float64(t))}
}

func (t textThing) plain() api.Value {
	// A piece of a long text would keep all of it in memory.
	return api.Value{Kind: api.VText, Text: strings.Clone(string(t))}
}

func (t listThing) plain() api.Value {
	vs := make([]api.Value, len(t))
	for i, inner := range t {
		vs[i] = inner.plain()
	}
	return api.Value{Kind: api.VList, List: vs}
}
