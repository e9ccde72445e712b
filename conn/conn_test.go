package conn_test

import (
	"bytes"
	"strings"
	"testing"

	"isthmus/api"
	"isthmus/client"
	"isthmus/conn"
	"isthmus/merkle"
	"isthmus/store"
	"isthmus/wire"
)

func empty() *store.Store {
	s, _ := store.New(nil)
	return s
}

// follow: the client id of s trusts what of has now, as that of a height.
func follow(s *store.Store, id string, of *store.Store, height uint64) {
	s.Set("ibc/client/"+id, wire.F(wire.N(wire.N(wire.T(nil, "other"), height), 1000), false))
	s.Set("ibc/cons/"+id+"/"+client.Hex(height), wire.B(wire.B(wire.N(nil, height), of.Root()), make([]byte, 32)))
}

func prove(of *store.Store, key string) api.Proof {
	p, _ := merkle.Prove(of.Pairs(""), key)
	return p
}

func want(t *testing.T, got, e api.Errno) {
	t.Helper()
	if got != e {
		t.Error(got, "instead of", e)
	}
}

// refused: the error, nothing answered, and nothing changed.
func refused(t *testing.T, s *store.Store, e api.Errno, do func() (string, api.Errno)) {
	t.Helper()
	before := s.Root()
	id, got := do()
	if got != e || id != "" || !bytes.Equal(before, s.Root()) {
		t.Error(got, "instead of", e, id)
	}
}

func no(e api.Errno) (string, api.Errno) { return "", e }

func TestKeyBytesGet(t *testing.T) {
	c := conn.Conn{conn.Tried, "client-0", "client-3", "conn-5"}
	form := wire.T(wire.T(wire.T(wire.N(nil, 2), "client-0"), "client-3"), "conn-5")
	if conn.Init != 1 || conn.Tried != 2 || conn.Open != 3 || conn.Closed != 4 {
		t.Error("the states")
	}
	if conn.Key("conn-7") != "ibc/conn/conn-7" || !bytes.Equal(conn.Bytes(c), form) {
		t.Error(conn.Bytes(c))
	}
	s := empty()
	s.Set(conn.Key("conn-7"), form)
	if got, ok := conn.Get(s, "conn-7"); !ok || got != c {
		t.Error(got, ok)
	}
	for i, b := range [][]byte{nil, form[:len(form)-1], append(bytes.Clone(form), 0), form[:8]} {
		s.Set(conn.Key("conn-7"), b)
		if got, ok := conn.Get(s, "conn-7"); ok || got != (conn.Conn{}) {
			t.Error(i, got)
		}
		want(t, conn.Ack(s, "conn-7", "conn-1", 1, api.Proof{}, 1), api.ErrConn)
	}
	for _, id := range []string{"", "Conn", "a/b", strings.Repeat("a", 33), strings.Repeat("a", 300)} {
		s.Set(conn.Key(id), form)
		if _, ok := conn.Get(s, id); ok {
			t.Error(id)
		}
	}
}

func TestBegin(t *testing.T) {
	s := empty()
	refused(t, s, api.ErrClient, func() (string, api.Errno) { return conn.Begin(s, "client-0", "") })
	follow(s, "client-0", s, 5)
	refused(t, s, api.ErrName, func() (string, api.Errno) { return conn.Begin(s, "client-0", "") })
	refused(t, s, api.ErrName, func() (string, api.Errno) { return conn.Begin(s, "client-0", "Client") })
	refused(t, s, api.ErrClient, func() (string, api.Errno) { return conn.Begin(s, "client-1", "Client") })
	for _, id := range []string{"conn-0", "conn-1"} {
		if got, e := conn.Begin(s, "client-0", "client-3"); e != api.OK || got != id {
			t.Error(got, e)
		}
		if c, ok := conn.Get(s, id); !ok || c != (conn.Conn{conn.Init, "client-0", "client-3", ""}) {
			t.Error(c, ok)
		}
	}
}

// Two ends shake hands: a's conn-0 by client-0, b's conn-5 by client-3.
func TestHandshake(t *testing.T) {
	a, b := empty(), empty()
	follow(a, "client-0", b, 1)
	if id, e := conn.Begin(a, "client-0", "client-3"); id != "conn-0" || e != api.OK {
		t.Fatal(id, e)
	}
	b.Set("ibc/n/conn", wire.N(nil, 5))
	follow(b, "client-3", a, 7)
	p := prove(a, conn.Key("conn-0"))
	try := func(id, other, cconn string, height uint64, p api.Proof, now uint64) func() (string, api.Errno) {
		return func() (string, api.Errno) { return conn.Try(b, id, other, cconn, height, p, now) }
	}
	refused(t, b, api.ErrClient, try("client-4", "", "", 7, p, 9))
	refused(t, b, api.ErrName, try("client-3", "", "conn-0", 8, p, 9))
	refused(t, b, api.ErrName, try("client-3", "client-0", "Conn", 8, p, 9))
	refused(t, b, api.ErrCons, try("client-3", "client-0", "conn-0", 8, p, 9))
	refused(t, b, api.ErrExpired, try("client-3", "client-0", "conn-0", 8, p, 1007))
	refused(t, b, api.ErrProof, try("client-3", "client-1", "conn-0", 7, p, 9))
	refused(t, b, api.ErrProof, try("client-3", "client-0", "conn-1", 7, p, 9))
	refused(t, b, api.ErrProof, try("client-3", "client-0", "conn-0", 7, api.Proof{}, 9))
	if id, e := conn.Try(b, "client-3", "client-0", "conn-0", 7, p, 9); id != "conn-5" || e != api.OK {
		t.Fatal(id, e)
	}
	if c, _ := conn.Get(b, "conn-5"); c != (conn.Conn{conn.Tried, "client-3", "client-0", "conn-0"}) {
		t.Error(c)
	}

	follow(a, "client-0", b, 8)
	p = prove(b, conn.Key("conn-5"))
	ack := func(id, cconn string, height uint64, p api.Proof) func() (string, api.Errno) {
		return func() (string, api.Errno) { return no(conn.Ack(a, id, cconn, height, p, 9)) }
	}
	refused(t, a, api.ErrConn, ack("conn-1", "", 8, p))
	refused(t, a, api.ErrName, ack("conn-0", "", 9, p))
	refused(t, a, api.ErrCons, ack("conn-0", "conn-5", 9, p))
	refused(t, a, api.ErrProof, ack("conn-0", "conn-4", 8, p))
	refused(t, a, api.ErrProof, ack("conn-0", "conn-5", 1, p))
	refused(t, a, api.ErrState, func() (string, api.Errno) { return no(conn.Confirm(a, "conn-0", 8, p, 9)) })
	want(t, conn.Ack(a, "conn-0", "conn-5", 8, p, 9), api.OK)
	if c, _ := conn.Get(a, "conn-0"); c != (conn.Conn{conn.Open, "client-0", "client-3", "conn-5"}) {
		t.Error(c)
	}
	refused(t, a, api.ErrState, ack("conn-0", "", 8, p))

	follow(b, "client-3", a, 9)
	p = prove(a, conn.Key("conn-0"))
	confirm := func(id string, height uint64, p api.Proof) func() (string, api.Errno) {
		return func() (string, api.Errno) { return no(conn.Confirm(b, id, height, p, 9)) }
	}
	refused(t, b, api.ErrConn, confirm("conn-0", 9, p))
	refused(t, b, api.ErrProof, confirm("conn-5", 7, p))
	refused(t, b, api.ErrCons, confirm("conn-5", 10, p))
	refused(t, b, api.ErrState, func() (string, api.Errno) { return no(conn.Ack(b, "conn-5", "", 9, p, 9)) })
	want(t, conn.Confirm(b, "conn-5", 9, p, 9), api.OK)
	if c, _ := conn.Get(b, "conn-5"); c != (conn.Conn{conn.Open, "client-3", "client-0", "conn-0"}) {
		t.Error(c)
	}
	refused(t, b, api.ErrState, confirm("conn-5", 9, p))
}

// An Ack and a Confirm are shown by the state of the other end that the step asks for, and of this very end.
func TestWhatIsShown(t *testing.T) {
	mine := conn.Conn{conn.Init, "client-0", "client-3", ""}
	theirs := conn.Conn{conn.Tried, "client-3", "client-0", "conn-0"}
	turns := []func(c *conn.Conn){
		func(c *conn.Conn) {}, func(c *conn.Conn) { c.State = conn.Init }, func(c *conn.Conn) { c.State = conn.Open }, func(c *conn.Conn) { c.State = conn.Closed },
		func(c *conn.Conn) { c.Client = "client-4" }, func(c *conn.Conn) { c.CClient = "client-1" }, func(c *conn.Conn) { c.CConn = "conn-1" }, func(c *conn.Conn) { c.CConn = "" },
	}
	for i, turn := range turns {
		for _, step := range []string{"ack", "confirm"} {
			a, b := empty(), empty()
			m, o := mine, theirs
			if step == "confirm" {
				m.State, m.CConn = conn.Tried, "conn-5"
				o.State = conn.Open
			}
			turn(&o)
			a.Set(conn.Key("conn-0"), conn.Bytes(m))
			b.Set(conn.Key("conn-5"), conn.Bytes(o))
			follow(a, "client-0", b, 3)
			right := i == 0
			var e api.Errno
			if step == "ack" {
				e = conn.Ack(a, "conn-0", "conn-5", 3, prove(b, conn.Key("conn-5")), 4)
			} else {
				right = right || i == 2
				e = conn.Confirm(a, "conn-0", 3, prove(b, conn.Key("conn-5")), 4)
			}
			if right != (e == api.OK) || !right && e != api.ErrProof {
				t.Error(step, i, e)
			}
			c, _ := conn.Get(a, "conn-0")
			if c.Client != "client-0" || c.CClient != "client-3" || right && (c.State != conn.Open || c.CConn != "conn-5") || !right && c != m {
				t.Error(step, i, c)
			}
		}
	}
}

// No step goes from a state but its own.
func TestStatesNeverGoBack(t *testing.T) {
	for state := range uint64(6) {
		a, b := empty(), empty()
		b.Set(conn.Key("conn-5"), conn.Bytes(conn.Conn{conn.Tried, "client-3", "client-0", "conn-0"}))
		b.Set(conn.Key("conn-6"), conn.Bytes(conn.Conn{conn.Open, "client-3", "client-0", "conn-0"}))
		a.Set(conn.Key("conn-0"), conn.Bytes(conn.Conn{state, "client-0", "client-3", "conn-6"}))
		follow(a, "client-0", b, 3)
		if e := conn.Ack(a, "conn-0", "conn-5", 3, prove(b, conn.Key("conn-5")), 4); (e == api.OK) != (state == conn.Init) || e != api.OK && e != api.ErrState {
			t.Error(state, e)
		}
		a.Set(conn.Key("conn-0"), conn.Bytes(conn.Conn{state, "client-0", "client-3", "conn-6"}))
		if e := conn.Confirm(a, "conn-0", 3, prove(b, conn.Key("conn-6")), 4); (e == api.OK) != (state == conn.Tried) || e != api.OK && e != api.ErrState {
			t.Error(state, e)
		}
	}
}

func TestNilStoreEnds(t *testing.T) {
	conn.Get(nil, "conn-0")
	conn.Begin(nil, "client-0", "client-1")
	conn.Try(nil, "client-0", "client-1", "conn-0", 1, api.Proof{}, 1)
	conn.Ack(nil, "conn-0", "conn-1", 1, api.Proof{}, 1)
	conn.Confirm(nil, "conn-0", 1, api.Proof{}, 1)
}
