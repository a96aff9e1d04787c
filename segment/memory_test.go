package segment_test

import (
	"fmt"
	"testing"

	"flume/api"
	"flume/segment"
)

// fill writes over a list, its spare room too.
func fill(b []byte, x byte) {
	b = b[:cap(b)]
	for i := range b {
		b[i] = x
	}
}

// What Put is handed is neither changed nor kept, its spare room neither.
func TestHandedIn(t *testing.T) {
	d, s := laid(t, 1, texts("zero")...)
	room := []byte("abcdefgh")
	first, second := room[:3], room[4:6]
	list := [][]byte{first, second, room, nil}
	lsn, err := s.Put(list[:2]...)
	same(t, "P13.3: Put", fmt.Sprint(lsn, err), "2 0")
	same(t, "P13.7: the bytes", string(room), "abcdefgh")
	same(t, "P13.7: the list", fmt.Sprintf("%s", list), "[abc ef abcdefgh ]")
	fill(room, '!')
	list[0], list[1], list[2] = nil, []byte("other"), nil
	readAll(t, "what was handed in is written over", s, 1, texts("zero", "abc", "ef")...)
	lsn, err = s.Put([]byte("more"))
	same(t, "P13.3: Put", fmt.Sprint(lsn, err), "4 0")
	b, _ := plainFile(headOf(1), texts("zero", "abc", "ef", "more")...)
	same(t, "P13.7: the file", string(bytesOf(d, file)), string(b))
	same(t, "P13.7: Look", s.Look(), plainLook(headOf(1), texts("zero", "abc", "ef", "more")...))
}

// What was refused, or failed, is not changed either.
func TestHandedInInVain(t *testing.T) {
	d, s := laid(t, 1)
	data := big(4097)
	list := [][]byte{data, data[:5], nil}
	s.Put(list[:2]...)
	arm(t, d, api.Fault{At: 1, Kind: api.FaultIO, Part: 3})
	_, err := s.Put(list[1:2]...)
	same(t, "P13.3: Put", err, api.ErrIO)
	same(t, "P13.7: what was handed in", fmt.Sprint(list), fmt.Sprint([][]byte{big(4097), big(4097)[:5], nil}))
}

// Bytes that are answered are new memory, spare room too.
func TestNewMemory(t *testing.T) {
	d, s := laid(t, 1, texts("abc", "defg", "", "h")...)
	was := tell(d)
	o, _, _ := segment.Open(d, file)
	for _, x := range []*segment.Segment{s, o} {
		var answers []api.Record
		for range 2 {
			for lsn := int64(1); lsn <= 4; lsn++ {
				rec, err := x.Read(lsn)
				same(t, "P13.5: Read", err, api.OK)
				answers = append(answers, rec)
			}
		}
		for i, rec := range answers[:4] {
			fill(rec.Data, '!')
			_ = append(rec.Data, "more"...)
			same(t, "P13.7: another answer", string(answers[4+i].Data), []string{"abc", "defg", "", "h"}[i])
		}
		readAll(t, "an answer was written over", x, 1, texts("abc", "defg", "", "h")...)
	}
	same(t, "P13.7: the disk", tell(d), was)
	lsn, err := s.Put([]byte("i"))
	same(t, "P13.3: Put", fmt.Sprint(lsn, err), "5 0")
	readAll(t, "and put", s, 1, texts("abc", "defg", "", "h", "i")...)
}
