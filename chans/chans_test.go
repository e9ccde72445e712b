package chans_test

import (
	"bytes"
	"strings"
	"testing"

	"isthmus/api"
	"isthmus/chans"
	"isthmus/client"
	"isthmus/conn"
	"isthmus/merkle"
	"isthmus/store"
	"isthmus/wire"
)

func empty() *store.Store {
	s, _ := store.New(nil)
	return s
}

// follow: the client id of s trusts what of has now, as that of a height.
func follow(s *store.Store, id string, of *store.Store, height uint64) {
	s.Set("ibc/client/"+id, wire.F(wire.N(wire.N(wire.T(nil, "other"), height), 1000), false))
	s.Set("ibc/cons/"+id+"/"+client.Hex(height), wire.B(wire.B(wire.N(nil, height), of.Root()), make([]byte, 32)))
}

func prove(of *store.Store, key string) api.Proof {
	p, _ := merkle.Prove(of.Pairs(""), key)
	return p
}

// joined: two stores with an open connection, a's conn-0 by client-0 and b's conn-5 by client-3.
func joined() (*store.Store, *store.Store) {
	a, b := empty(), empty()
	a.Set(conn.Key("conn-0"), conn.Bytes(conn.Conn{State: conn.Open, Client: "client-0", CClient: "client-3", CConn: "conn-5"}))
	b.Set(conn.Key("conn-5"), conn.Bytes(conn.Conn{State: conn.Open, Client: "client-3", CClient: "client-0", CConn: "conn-0"}))
	for _, state := range []uint64{0, conn.Init, conn.Tried, conn.Closed} {
		a.Set(conn.Key("shut-"+string(rune('0'+state))), conn.Bytes(conn.Conn{State: state, Client: "client-0", CClient: "client-3", CConn: "conn-5"}))
	}
	follow(a, "client-0", b, 1)
	follow(b, "client-3", a, 1)
	return a, b
}

func want(t *testing.T, got, e api.Errno) {
	t.Helper()
	if got != e {
		t.Error(got, "instead of", e)
	}
}

// refused: the error, nothing answered, and nothing changed.
func refused(t *testing.T, s *store.Store, e api.Errno, id string, got api.Errno, before []byte) {
	t.Helper()
	if got != e || id != "" || !bytes.Equal(before, s.Root()) {
		t.Error(got, "instead of", e, id)
	}
}

func TestKeysBytesGetPut(t *testing.T) {
	c := chans.Chan{conn.Tried, true, "p", "q", "conn-0", "chan-9", "v"}
	form := wire.F(wire.N(nil, 2), true)
	for _, x := range []string{"p", "q", "conn-0", "chan-9", "v"} {
		form = wire.T(form, x)
	}
	if chans.Key("x") != "ibc/chan/x" || chans.Next("x") != "ibc/next/x" || chans.Recv("x") != "ibc/recv/x" || chans.Acked("x") != "ibc/acked/x" || !bytes.Equal(chans.Bytes(c), form) {
		t.Error("keys or bytes")
	}
	s := empty()
	chans.Put(s, "chan-7", c)
	if b, _ := s.Get("ibc/chan/chan-7"); !bytes.Equal(b, form) {
		t.Error(b)
	}
	if got, ok := chans.Get(s, "chan-7"); !ok || got != c {
		t.Error(got, ok)
	}
	for i, b := range [][]byte{nil, form[:len(form)-1], append(bytes.Clone(form), 0), append(append(bytes.Clone(form[:8]), 2), form[9:]...)} {
		s.Set(chans.Key("chan-7"), b)
		if got, ok := chans.Get(s, "chan-7"); ok || got != (chans.Chan{}) {
			t.Error(i, got)
		}
		want(t, chans.Close(s, "chan-7"), api.ErrChan)
	}
	for _, id := range []string{"", "Chan", "a/b", strings.Repeat("a", 33), strings.Repeat("a", 300)} {
		chans.Put(s, id, c)
		if _, ok := chans.Get(s, id); ok {
			t.Error(id)
		}
	}
	if _, ok := s.Get(chans.Key("a/b")); !ok {
		t.Error("the store takes it")
	}
}

func TestBegin(t *testing.T) {
	a, _ := joined()
	cases := []struct {
		via, port, cport string
		ordered          bool
		version          string
		want             api.Errno
	}{
		{"conn-1", "x", "y", true, "", api.ErrConn},
		{"Conn", "x", "y", true, "", api.ErrConn},
		{"shut-0", "x", "y", true, "", api.ErrState},
		{"shut-1", "x", "y", true, "", api.ErrState},
		{"shut-2", "transfer", "transfer", false, "ics20", api.ErrState},
		{"shut-4", "transfer", "transfer", false, "ics20", api.ErrState},
		{"conn-0", "transfer", "transfer", true, "ics20", api.ErrOrder},
		{"conn-0", "transfer", "transfer", true, "x", api.ErrOrder},
		{"conn-0", "transfer", "transfer", false, "ics21", api.ErrVersion},
		{"conn-0", "transfer", "transfer", false, "", api.ErrVersion},
		{"conn-0", "transfer", "host", false, "", api.ErrPort},
		{"conn-0", "control", "transfer", false, "", api.ErrPort},
		{"conn-0", "host", "control", true, "ann", api.ErrPort},
		{"conn-0", "host", "host", true, "ann", api.ErrPort},
		{"conn-0", "control", "control", true, "ann", api.ErrPort},
		{"conn-0", "", "", true, "ann", api.ErrPort},
		{"conn-0", "control", "host", false, "", api.ErrOrder},
		{"conn-0", "control", "host", true, "", api.ErrVersion},
		{"conn-0", "control", "host", true, "Ann", api.ErrVersion},
	}
	for _, c := range cases {
		before := a.Root()
		id, e := chans.Begin(a, c.via, c.port, c.cport, c.ordered, c.version)
		refused(t, a, c.want, id, e, before)
	}
	if id, e := chans.Begin(a, "conn-0", "transfer", "transfer", false, "ics20"); id != "chan-0" || e != api.OK {
		t.Error(id, e)
	}
	if id, e := chans.Begin(a, "conn-0", "control", "host", true, "ann"); id != "chan-1" || e != api.OK {
		t.Error(id, e)
	}
	if c, _ := chans.Get(a, "chan-0"); c != (chans.Chan{conn.Init, false, "transfer", "transfer", "conn-0", "", "ics20"}) {
		t.Error(c)
	}
	if c, _ := chans.Get(a, "chan-1"); c != (chans.Chan{conn.Init, true, "control", "host", "conn-0", "", "ann"}) {
		t.Error(c)
	}
	for _, key := range []string{chans.Next("chan-0"), chans.Recv("chan-0"), chans.Acked("chan-0"), chans.Next("chan-1"), chans.Recv("chan-1"), chans.Acked("chan-1")} {
		if b, _ := a.Get(key); !bytes.Equal(b, wire.N(nil, 1)) {
			t.Error(key, b)
		}
	}
}

func TestHandshakeAndClosing(t *testing.T) {
	for _, ports := range [][]string{{"transfer", "transfer", "ics20"}, {"control", "host", "ann"}} {
		ordered := ports[0] == "control"
		a, b := joined()
		if id, e := chans.Begin(a, "conn-0", ports[0], ports[1], ordered, ports[2]); id != "chan-0" || e != api.OK {
			t.Fatal(id, e)
		}
		b.Set("ibc/n/chan", wire.N(nil, 7))
		follow(b, "client-3", a, 2)
		tried := chans.Chan{99, ordered, ports[1], ports[0], "conn-5", "chan-0", ports[2]}
		p := prove(a, chans.Key("chan-0"))
		if id, e := chans.Try(b, tried, 2, p, 3); id != "chan-7" || e != api.OK {
			t.Fatal(id, e)
		}
		tried.State = conn.Tried
		if c, _ := chans.Get(b, "chan-7"); c != tried {
			t.Error(c)
		}
		for _, key := range []string{chans.Next("chan-7"), chans.Recv("chan-7"), chans.Acked("chan-7")} {
			if n, _ := b.Get(key); !bytes.Equal(n, wire.N(nil, 1)) {
				t.Error(key, n)
			}
		}

		follow(a, "client-0", b, 3)
		p = prove(b, chans.Key("chan-7"))
		before := a.Root()
		refused(t, a, api.ErrChan, "", chans.Ack(a, "chan-1", "", 3, p, 4), before)
		refused(t, a, api.ErrState, "", chans.Confirm(a, "chan-0", 3, p, 4), before)
		refused(t, a, api.ErrState, "", chans.Close(a, "chan-0"), before)
		refused(t, a, api.ErrState, "", chans.CloseConfirm(a, "chan-0", 3, p, 4), before)
		refused(t, a, api.ErrName, "", chans.Ack(a, "chan-0", "Chan", 9, p, 4), before)
		refused(t, a, api.ErrCons, "", chans.Ack(a, "chan-0", "chan-7", 9, p, 4), before)
		refused(t, a, api.ErrProof, "", chans.Ack(a, "chan-0", "chan-6", 3, p, 4), before)
		refused(t, a, api.ErrProof, "", chans.Ack(a, "chan-0", "chan-7", 3, api.Proof{}, 4), before)
		want(t, chans.Ack(a, "chan-0", "chan-7", 3, p, 4), api.OK)
		open := chans.Chan{conn.Open, ordered, ports[0], ports[1], "conn-0", "chan-7", ports[2]}
		if c, _ := chans.Get(a, "chan-0"); c != open {
			t.Error(c)
		}
		before = a.Root()
		refused(t, a, api.ErrState, "", chans.Ack(a, "chan-0", "", 3, p, 4), before)

		follow(b, "client-3", a, 4)
		p = prove(a, chans.Key("chan-0"))
		before = b.Root()
		refused(t, b, api.ErrChan, "", chans.Confirm(b, "chan-0", 4, p, 5), before)
		refused(t, b, api.ErrState, "", chans.Ack(b, "chan-7", "", 4, p, 5), before)
		refused(t, b, api.ErrState, "", chans.CloseConfirm(b, "chan-7", 4, p, 5), before)
		refused(t, b, api.ErrProof, "", chans.Confirm(b, "chan-7", 2, p, 5), before)
		want(t, chans.Confirm(b, "chan-7", 4, p, 5), api.OK)
		tried.State = conn.Open
		if c, _ := chans.Get(b, "chan-7"); c != tried {
			t.Error(c)
		}
		before = b.Root()
		refused(t, b, api.ErrState, "", chans.Confirm(b, "chan-7", 4, p, 5), before)
		refused(t, b, api.ErrProof, "", chans.CloseConfirm(b, "chan-7", 4, p, 5), before)

		before = a.Root()
		refused(t, a, api.ErrChan, "", chans.Close(a, "chan-3"), before)
		if !ordered {
			refused(t, a, api.ErrOrder, "", chans.Close(a, "chan-0"), before)
			open.State = conn.Closed
			chans.Put(a, "chan-0", open) // no call does that: but what is closed is shown all the same
		} else {
			want(t, chans.Close(a, "chan-0"), api.OK)
			open.State = conn.Closed
			if c, _ := chans.Get(a, "chan-0"); c != open {
				t.Error(c)
			}
		}
		before = a.Root()
		refused(t, a, api.ErrState, "", chans.Close(a, "chan-0"), before)
		follow(b, "client-3", a, 5)
		p = prove(a, chans.Key("chan-0"))
		before = b.Root()
		refused(t, b, api.ErrChan, "", chans.CloseConfirm(b, "chan-0", 5, p, 6), before)
		refused(t, b, api.ErrCons, "", chans.CloseConfirm(b, "chan-7", 6, p, 6), before)
		want(t, chans.CloseConfirm(b, "chan-7", 5, p, 6), api.OK)
		tried.State = conn.Closed
		if c, _ := chans.Get(b, "chan-7"); c != tried {
			t.Error(c)
		}
		before = b.Root()
		refused(t, b, api.ErrState, "", chans.CloseConfirm(b, "chan-7", 5, p, 6), before)
	}
}

func TestTryRefuses(t *testing.T) {
	a, b := joined()
	chans.Begin(a, "conn-0", "transfer", "transfer", false, "ics20")
	chans.Begin(a, "conn-0", "control", "host", true, "ann")
	follow(b, "client-3", a, 2)
	b.Set(conn.Key("shut"), conn.Bytes(conn.Conn{State: conn.Tried, Client: "client-3"}))
	good := chans.Chan{0, false, "transfer", "transfer", "conn-5", "chan-0", "ics20"}
	host := chans.Chan{0, true, "host", "control", "conn-5", "chan-1", "ann"}
	cases := []struct {
		base   chans.Chan
		turn   func(c *chans.Chan)
		height uint64
		want   api.Errno
	}{
		{good, func(c *chans.Chan) { c.Conn = "conn-0"; c.Port = "x"; c.CChan = "" }, 2, api.ErrConn},
		{good, func(c *chans.Chan) { c.Conn = "shut"; c.Port = "x"; c.CChan = "" }, 2, api.ErrState},
		{good, func(c *chans.Chan) { c.Ordered = true; c.Version = "x"; c.CChan = "" }, 2, api.ErrOrder},
		{good, func(c *chans.Chan) { c.Version = "x"; c.CChan = "" }, 2, api.ErrVersion},
		{good, func(c *chans.Chan) { c.Port = "x"; c.CChan = "" }, 2, api.ErrPort},
		{host, func(c *chans.Chan) { c.Port, c.CPort = "control", "host"; c.CChan = "" }, 2, api.ErrPort},
		{host, func(c *chans.Chan) { c.Ordered = false; c.Version = "" }, 2, api.ErrOrder},
		{host, func(c *chans.Chan) { c.Version = "Ann"; c.CChan = "" }, 2, api.ErrVersion},
		{good, func(c *chans.Chan) { c.CChan = "" }, 3, api.ErrName},
		{good, func(c *chans.Chan) { c.CChan = "Chan" }, 3, api.ErrName},
		{good, func(c *chans.Chan) {}, 3, api.ErrCons},
		{good, func(c *chans.Chan) { c.CChan = "chan-1" }, 2, api.ErrProof},
		{host, func(c *chans.Chan) { c.Version = "bob" }, 2, api.ErrProof},
		{host, func(c *chans.Chan) { c.CChan = "chan-0" }, 2, api.ErrProof},
	}
	for _, c := range cases {
		x := c.base
		key := x.CChan
		c.turn(&x)
		before := b.Root()
		id, e := chans.Try(b, x, c.height, prove(a, chans.Key(key)), 3)
		refused(t, b, c.want, id, e, before)
	}
	if id, e := chans.Try(b, good, 2, prove(a, chans.Key("chan-0")), 3); id != "chan-0" || e != api.OK {
		t.Error(id, e)
	}
	if id, e := chans.Try(b, host, 2, prove(a, chans.Key("chan-1")), 3); id != "chan-1" || e != api.OK {
		t.Error(id, e)
	}
}

// Each step is shown by just the other end that the chapter says, and by an open connection.
func TestWhatIsShown(t *testing.T) {
	steps := []struct {
		from, to, other uint64
		do              func(s *store.Store, p api.Proof) api.Errno
	}{
		{conn.Init, conn.Open, conn.Tried, func(s *store.Store, p api.Proof) api.Errno { return chans.Ack(s, "chan-0", "chan-7", 3, p, 4) }},
		{conn.Tried, conn.Open, conn.Open, func(s *store.Store, p api.Proof) api.Errno { return chans.Confirm(s, "chan-0", 3, p, 4) }},
		{conn.Open, conn.Closed, conn.Closed, func(s *store.Store, p api.Proof) api.Errno { return chans.CloseConfirm(s, "chan-0", 3, p, 4) }},
	}
	turns := []func(c *chans.Chan){
		func(c *chans.Chan) {}, func(c *chans.Chan) { c.State++ }, func(c *chans.Chan) { c.State-- }, func(c *chans.Chan) { c.Ordered = !c.Ordered }, func(c *chans.Chan) { c.Port, c.CPort = c.CPort, c.Port },
		func(c *chans.Chan) { c.Conn = "conn-4" }, func(c *chans.Chan) { c.CChan = "chan-1" }, func(c *chans.Chan) { c.CChan = "" }, func(c *chans.Chan) { c.Version = "bob" },
	}
	for n, step := range steps {
		for i, turn := range turns {
			a, b := joined()
			mine := chans.Chan{step.from, true, "control", "host", "conn-0", "chan-7", "ann"}
			if step.from == conn.Init {
				mine.CChan = ""
			}
			chans.Put(a, "chan-0", mine)
			theirs := chans.Chan{step.other, true, "host", "control", "conn-5", "chan-0", "ann"}
			turn(&theirs)
			chans.Put(b, "chan-7", theirs)
			follow(a, "client-0", b, 3)
			e := step.do(a, prove(b, chans.Key("chan-7")))
			c, _ := chans.Get(a, "chan-0")
			if i > 0 && (e != api.ErrProof || c != mine) {
				t.Error(n, i, e)
			}
			mine.State, mine.CChan = step.to, "chan-7"
			if i == 0 && (e != api.OK || c != mine) {
				t.Error(n, e, c)
			}
		}
		for via, e := range map[string]api.Errno{"nope": api.ErrConn, "shut-1": api.ErrState, "shut-2": api.ErrState} {
			a, b := joined()
			chans.Put(a, "chan-0", chans.Chan{step.from, true, "control", "host", via, "chan-7", "ann"})
			before := a.Root()
			refused(t, a, e, "", step.do(a, prove(b, chans.Key("chan-7"))), before)
		}
		for state := range uint64(6) {
			a, b := joined()
			chans.Put(a, "chan-0", chans.Chan{state, true, "control", "host", "nope", "chan-7", "ann"})
			if e := step.do(a, prove(b, chans.Key("chan-7"))); (e == api.ErrState) != (state != step.from) {
				t.Error(n, state, e)
			}
			if e := chans.Close(a, "chan-0"); (e == api.OK) != (state == conn.Open) {
				t.Error(state, e)
			}
		}
	}
}

func TestNilStoreEnds(t *testing.T) {
	chans.Get(nil, "chan-0")
	chans.Put(nil, "chan-0", chans.Chan{})
	chans.Begin(nil, "conn-0", "transfer", "transfer", false, "ics20")
	chans.Try(nil, chans.Chan{}, 1, api.Proof{}, 1)
	chans.Ack(nil, "chan-0", "chan-1", 1, api.Proof{}, 1)
	chans.Confirm(nil, "chan-0", 1, api.Proof{}, 1)
	chans.Close(nil, "chan-0")
	chans.CloseConfirm(nil, "chan-0", 1, api.Proof{}, 1)
}
