package vals_test

import (
	"bytes"
	"crypto/sha256"
	"encoding/binary"
	"strconv"
	"strings"
	"testing"

	"isthmus/api"
	"isthmus/vals"
)

func set(powers ...uint64) []api.Val {
	var l []api.Val
	for i, p := range powers {
		l = append(l, api.Val{Name: string(rune('a' + i)), Power: p})
	}
	return l
}

func field(b []byte, s string) []byte {
	return append(binary.BigEndian.AppendUint32(b, uint32(len(s))), s...)
}

func tagged(word string, b []byte) []byte {
	sum := sha256.Sum256(field(field(nil, word), string(b)))
	return sum[:]
}

func TestRight(t *testing.T) {
	right := [][]api.Val{set(1), set(1, 1, 1, 1), set(1, 2, 3, 4, 5, 6, 7, 8), set(vals.MaxPower), {{Name: "a", Power: 1}, {Name: "a0", Power: 1}}}
	wrong := [][]api.Val{nil, {}, set(1, 1, 1, 1, 1, 1, 1, 1, 1), set(0), set(1, 0), set(vals.MaxPower + 1), set(1 << 63),
		{{Name: "b", Power: 1}, {Name: "a", Power: 1}}, {{Name: "a", Power: 1}, {Name: "a", Power: 1}}, {{Name: "", Power: 1}}, {{Name: "A", Power: 1}},
		{{Name: "a", Power: 1}, {Name: strings.Repeat("b", 33), Power: 1}}, {{Name: "a", Power: 1}, {Name: "c", Power: 1}, {Name: "b", Power: 1}}}
	for i, l := range append(right, wrong...) {
		if vals.Right(l) != (i < len(right)) {
			t.Error(i, l)
		}
	}
}

func TestBytesAndHash(t *testing.T) {
	for _, l := range [][]api.Val{nil, set(3, 1<<40), {{Name: "Not one", Power: 0}, {Name: "", Power: 1<<64 - 1}}} {
		want := binary.BigEndian.AppendUint64(nil, uint64(len(l)))
		for _, v := range l {
			want = binary.BigEndian.AppendUint64(field(want, v.Name), v.Power)
		}
		if got := vals.Bytes(l); !bytes.Equal(got, want) {
			t.Error(l, got)
		}
		if got := vals.Hash(l); !bytes.Equal(got, tagged("vals", want)) {
			t.Error(l, got)
		}
	}
}

func TestHeaderAndHashOf(t *testing.T) {
	h := api.Header{Chain: "one", Height: 5, Time: 9, Root: []byte{1}, Vals: []byte{2, 3}, Next: []byte{4, 5, 6}}
	want := field(nil, "one")
	want = binary.BigEndian.AppendUint64(want, 5)
	want = binary.BigEndian.AppendUint64(want, 9)
	want = field(field(field(want, "\x01"), "\x02\x03"), "\x04\x05\x06")
	if got := vals.Header(h); !bytes.Equal(got, want) {
		t.Error(got)
	}
	if got := vals.HashOf(h); !bytes.Equal(got, tagged("header", want)) {
		t.Error(got)
	}
	room := bytes.Repeat([]byte{7}, 40)
	h.Root = room[:2]
	vals.Header(h)
	if !bytes.Equal(room, bytes.Repeat([]byte{7}, 40)) {
		t.Error("written into a part's room")
	}
}

func TestPowerAndVoted(t *testing.T) {
	l := set(1, 10, 100, 1000)
	cases := []struct {
		votes []string
		want  uint64
	}{{nil, 0}, {[]string{"a"}, 1}, {[]string{"d", "b"}, 1010}, {[]string{"a", "a", "a"}, 1}, {[]string{"x", "c", ""}, 100}, {[]string{"a", "b", "c", "d", "a"}, 1111}}
	for _, c := range cases {
		if got := vals.Voted(l, c.votes); got != c.want {
			t.Error(c, got)
		}
	}
	if vals.Power(l) != 1111 || vals.Power(nil) != 0 || vals.Voted(nil, []string{"a"}) != 0 {
		t.Error("Power")
	}
	wide := set(1<<63, 1<<63, 5)
	if vals.Power(wide) != 5 || vals.Voted(wide, []string{"a", "b", "c"}) != 5 {
		t.Error("no wrap round")
	}
}

func TestQuorumAndThird(t *testing.T) {
	four := set(1, 1, 1, 1)
	cases := []struct {
		l             []api.Val
		votes         []string
		quorum, third bool
	}{
		{four, []string{"a", "b", "c"}, true, true},
		{four, []string{"a", "b"}, false, true},
		{four, []string{"a", "a", "a"}, false, false},
		{four, []string{"a", "b", "x"}, false, true},
		{four, []string{"a"}, false, false},
		{four, nil, false, false},
		{set(1, 1, 1), []string{"a", "b"}, false, true}, // two thirds are no quorum
		{set(1, 1, 1), []string{"a"}, false, false},     // and a third isn't more
		{set(2, 1, 1), []string{"a"}, false, true},
		{set(1), []string{"a"}, true, true},
		{set(vals.MaxPower, vals.MaxPower, vals.MaxPower, vals.MaxPower, vals.MaxPower, vals.MaxPower, vals.MaxPower, vals.MaxPower), []string{"a", "b", "c", "d", "e", "f"}, true, true},
		{set(vals.MaxPower, vals.MaxPower, vals.MaxPower, vals.MaxPower, vals.MaxPower, vals.MaxPower, vals.MaxPower, vals.MaxPower), []string{"a", "b", "c", "d", "e"}, false, true},
		{nil, []string{"a"}, false, false},
		{set(0, 5), []string{"a", "b"}, false, false},
		{[]api.Val{{Name: "b", Power: 1}, {Name: "a", Power: 1}}, []string{"a", "b"}, false, false},
		{set(1, 1, 1, 1, 1, 1, 1, 1, 1), []string{"a", "b", "c", "d", "e", "f", "g", "h", "i"}, false, false},
	}
	for i, c := range cases {
		if vals.Quorum(c.l, c.votes) != c.quorum || vals.Third(c.l, c.votes) != c.third {
			t.Error(i, vals.Quorum(c.l, c.votes), vals.Third(c.l, c.votes))
		}
	}
}

// Two quorums of one set have in common what is more than a third.
func TestQuorumsMeet(t *testing.T) {
	for _, l := range [][]api.Val{set(1, 1, 1, 1), set(1, 2, 3, 4, 5), set(7, 1, 1, 3), set(5, 5, 1)} {
		part := func(mask int) []string {
			var votes []string
			for i, v := range l {
				if mask>>i&1 == 1 {
					votes = append(votes, v.Name)
				}
			}
			return votes
		}
		for a := range 1 << len(l) {
			for b := range 1 << len(l) {
				if vals.Quorum(l, part(a)) && vals.Quorum(l, part(b)) && !vals.Third(l, part(a&b)) {
					t.Error(l, part(a), part(b))
				}
			}
		}
	}
}

func TestMaxPower(t *testing.T) {
	if vals.MaxPower != 1<<32 || !vals.Right(set(1<<32)) || vals.Right(set(1<<32+1)) {
		t.Error("MaxPower")
	}
}

func TestLongListsEnd(t *testing.T) {
	var l []api.Val
	var votes []string
	for i := range 50000 {
		l = append(l, api.Val{Name: strconv.Itoa(i), Power: 1})
		votes = append(votes, strconv.Itoa(2*i))
	}
	if vals.Voted(l, votes) != 25000 || vals.Right(l) || len(vals.Hash(l)) != 32 {
		t.Error("a long list")
	}
}
