package wire_test

import (
	"bytes"
	"math/rand"
	"strings"
	"testing"

	"isthmus/api"
	"isthmus/wire"
)

func TestForms(t *testing.T) {
	long := bytes.Repeat([]byte{7}, api.MaxField+5)
	cut := append([]byte{0, 0, 0xff, 0xff}, long[:api.MaxField]...)
	cases := []struct{ got, want []byte }{
		{wire.N(nil, 258), []byte{0, 0, 0, 0, 0, 0, 1, 2}},
		{wire.N([]byte{9}, 1<<64-1), []byte{9, 255, 255, 255, 255, 255, 255, 255, 255}},
		{wire.N(nil, 0x0102030405060708), []byte{1, 2, 3, 4, 5, 6, 7, 8}},
		{wire.T(nil, "ab"), []byte{0, 0, 0, 2, 'a', 'b'}},
		{wire.T([]byte{1}, ""), []byte{1, 0, 0, 0, 0}},
		{wire.B([]byte{5}, []byte{6, 7}), []byte{5, 0, 0, 0, 2, 6, 7}},
		{wire.B(nil, nil), []byte{0, 0, 0, 0}},
		{wire.B(nil, make([]byte, 258)), append([]byte{0, 0, 1, 2}, make([]byte, 258)...)},
		{wire.B(nil, long), cut},
		{wire.B(nil, long[:api.MaxField]), cut},
		{wire.T(nil, string(long)), cut},
		{wire.F(nil, true), []byte{1}},
		{wire.F([]byte{3}, false), []byte{3, 0}},
	}
	for i, c := range cases {
		if !bytes.Equal(c.got, c.want) {
			t.Error(i, c.got)
		}
	}
}

// What is put stands in new memory, and the spare room of what is handed in stays.
func TestPutsLeaveTheirArguments(t *testing.T) {
	room := bytes.Repeat([]byte{42}, 64)
	puts := []func(b []byte) []byte{
		func(b []byte) []byte { return wire.N(b, 1) },
		func(b []byte) []byte { return wire.B(b, []byte{1, 2}) },
		func(b []byte) []byte { return wire.T(b, "ab") },
		func(b []byte) []byte { return wire.F(b, true) },
	}
	for i, put := range puts {
		out := put(room[:3])
		out[0], out[1] = 1, 1
		if !bytes.Equal(room, bytes.Repeat([]byte{42}, 64)) {
			t.Error(i, room)
		}
	}
}

func TestReaderTakes(t *testing.T) {
	b := wire.F(wire.B(wire.T(wire.N(nil, 77), "hey"), []byte{1, 2, 3}), true)
	b = wire.F(wire.N(wire.N(b, 5), 0), false)
	r := wire.Open(b)
	if r.Left() != len(b) {
		t.Error(r.Left())
	}
	if n := r.N(); n != 77 {
		t.Error(n)
	}
	if s := r.T(); s != "hey" {
		t.Error(s)
	}
	if x := r.B(); !bytes.Equal(x, []byte{1, 2, 3}) {
		t.Error(x)
	}
	if !r.F() {
		t.Error("F")
	}
	if r.End() != api.ErrTail || r.Err() != api.OK {
		t.Error(r.End(), r.Err())
	}
	if n := r.Count(5); n != 5 {
		t.Error(n)
	}
	if n := r.Count(0); n != 0 || r.Err() != api.OK {
		t.Error(n, r.Err())
	}
	if r.F() || r.End() != api.OK || r.Left() != 0 || r.End() != api.OK {
		t.Error(r.End(), r.Left())
	}
}

func TestReaderFaults(t *testing.T) {
	takes := map[string]func(r *wire.Reader) bool{
		"N": func(r *wire.Reader) bool { return r.N() == 0 },
		"B": func(r *wire.Reader) bool { return len(r.B()) == 0 },
		"T": func(r *wire.Reader) bool { return r.T() == "" },
		"F": func(r *wire.Reader) bool { return !r.F() },
		"4": func(r *wire.Reader) bool { return r.Count(4) == 0 },
		"-": func(r *wire.Reader) bool { return r.Count(-1) == 0 },
	}
	cases := []struct {
		call string
		b    []byte
		want api.Errno
	}{
		{"N", []byte{1, 2, 3, 4, 5, 6, 7}, api.ErrShort},
		{"N", nil, api.ErrShort},
		{"T", []byte{0, 0, 0, 2, 0x61}, api.ErrShort},
		{"B", []byte{0, 0, 0, 2, 0x61}, api.ErrShort},
		{"B", []byte{0, 0, 0}, api.ErrShort},
		{"B", []byte{0xff, 0xff, 0xff}, api.ErrShort},
		{"B", []byte{0, 1, 0, 0}, api.ErrLong},
		{"T", []byte{0, 1, 0, 0}, api.ErrLong},
		{"B", []byte{0xff, 0xff, 0xff, 0xff, 1}, api.ErrLong},
		{"B", []byte{0, 0, 0xff, 0xff, 1}, api.ErrShort},
		{"F", nil, api.ErrShort},
		{"F", []byte{2}, api.ErrForm},
		{"F", []byte{255}, api.ErrForm},
		{"4", wire.N(nil, 5), api.ErrLong},
		{"4", wire.N(nil, 1<<63), api.ErrLong},
		{"4", wire.N(nil, 1<<64-1), api.ErrLong},
		{"4", []byte{9, 9, 9}, api.ErrShort},
		{"-", wire.N(nil, 0), api.ErrLong},
		{"-", []byte{0}, api.ErrShort},
	}
	for i, c := range cases {
		r := wire.Open(c.b)
		for _, take := range takes {
			if !takes[c.call](r) || r.Err() != c.want || r.End() != c.want || r.Left() != len(c.b) {
				t.Error(i, r.Err(), r.End(), r.Left())
			}
			if !take(r) || r.Err() != c.want || r.Left() != len(c.b) {
				t.Error(i, "behind the fault", r.Err(), r.Left())
			}
		}
	}
}

// What is just long enough is taken, to the last byte; a byte more is a tail.
func TestExactLengths(t *testing.T) {
	takes := map[string]func(r *wire.Reader) bool{
		"\x00\x00\x00\x00\x00\x00\x00\x07": func(r *wire.Reader) bool { return r.N() == 7 && r.Err() == api.OK },
		"\x00\x00\x00\x00\x00\x00\x00\x06": func(r *wire.Reader) bool { return r.Count(6) == 6 },
		"\x00\x00\x00\x00":                 func(r *wire.Reader) bool { return len(r.B()) == 0 && r.Err() == api.OK },
		"\x00\x00\x00\x01a":                func(r *wire.Reader) bool { return r.T() == "a" },
		"\x01":                             func(r *wire.Reader) bool { return r.F() },
	}
	for b, take := range takes {
		r := wire.Open([]byte(b))
		if !take(r) || r.End() != api.OK || r.Left() != 0 {
			t.Errorf("%q: %v", b, r.End())
		}
		r = wire.Open([]byte(b + "\x00"))
		if !take(r) || r.End() != api.ErrTail || r.Err() != api.OK || r.Left() != 1 {
			t.Errorf("%q and a tail: %v", b, r.End())
		}
	}
}

// Behind a fault nothing is taken, also where the bytes would do.
func TestNothingBehindAFault(t *testing.T) {
	r := wire.Open(append([]byte{2, 1}, wire.N(nil, 3)...))
	r.F()
	if r.F() || r.N() != 0 || r.Count(100) != 0 || r.T() != "" || len(r.B()) != 0 || r.Left() != 10 || r.Err() != api.ErrForm {
		t.Error(r.Left(), r.Err())
	}
}

func TestReaderKeepsItsOwn(t *testing.T) {
	b := wire.B(nil, []byte{1, 2, 3})
	b = wire.B(b, []byte{4, 5})
	r := wire.Open(b)
	for i := range b {
		b[i] = 9
	}
	x := r.B()
	x = append(x, 8, 8, 8, 8, 8, 8)
	x[0] = 8
	if y := r.B(); !bytes.Equal(y, []byte{4, 5}) || r.End() != api.OK {
		t.Error(y, r.End())
	}
}

func TestNilReader(t *testing.T) {
	var r *wire.Reader
	if r.N() != 0 || len(r.B()) != 0 || r.T() != "" || r.F() || r.Count(5) != 0 || r.Left() != 0 || r.Err() != api.ErrNil || r.End() != api.ErrNil {
		t.Error("nil reader")
	}
	if wire.Open(nil) == nil || wire.Open(nil).End() != api.OK {
		t.Error("Open of nothing")
	}
}

// What was put is taken again, and bytes that are taken without a fault are those that the same puts make.
func TestBackAndForth(t *testing.T) {
	r := rand.New(rand.NewSource(2))
	for range 3000 {
		b := make([]byte, r.Intn(60))
		for i := range b {
			b[i] = byte(r.Intn(3))
		}
		rd := wire.Open(b)
		var again []byte
		for rd.Err() == api.OK {
			before := again
			switch r.Intn(5) {
			case 0:
				again = wire.N(again, rd.N())
			case 1:
				again = wire.B(again, rd.B())
			case 2:
				again = wire.T(again, rd.T())
			case 3:
				again = wire.F(again, rd.F())
			case 4:
				again = wire.N(again, uint64(rd.Count(1<<40)))
			}
			if rd.Err() != api.OK {
				again = before
			}
		}
		if !bytes.Equal(again, b[:len(b)-rd.Left()]) {
			t.Fatal(b, again)
		}
	}
	s := strings.Repeat("x", api.MaxField)
	if rd := wire.Open(wire.T(nil, s)); rd.T() != s || rd.End() != api.OK {
		t.Error("the longest text")
	}
}
