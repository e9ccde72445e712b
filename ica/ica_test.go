package ica_test

import (
	"bytes"
	"reflect"
	"strings"
	"testing"

	"isthmus/api"
	"isthmus/bank"
	"isthmus/chans"
	"isthmus/conn"
	"isthmus/ica"
	"isthmus/limb"
	"isthmus/packet"
	"isthmus/store"
	"isthmus/wire"
)

func of(n uint64) api.U { return limb.Of(n) }

// ready: conn-0 open, by client-0; chan-8 a host's for ann over conn-0, chan-9 one of transfers.
func ready() *store.Store {
	s, _ := store.New(nil)
	s.Set("ibc/client/client-0", wire.F(wire.N(wire.N(wire.T(nil, "other"), 3), 1000), false))
	s.Set(conn.Key("conn-0"), conn.Bytes(conn.Conn{State: conn.Open, Client: "client-0", CClient: "client-3", CConn: "conn-5"}))
	s.Set(conn.Key("conn-1"), conn.Bytes(conn.Conn{State: conn.Tried, Client: "client-0", CClient: "client-3", CConn: "conn-5"}))
	chans.Put(s, "chan-8", chans.Chan{State: conn.Open, Ordered: true, Port: "host", CPort: "control", Conn: "conn-0", CChan: "chan-3", Version: "ann"})
	chans.Put(s, "chan-9", chans.Chan{State: conn.Open, Port: "transfer", CPort: "transfer", Conn: "conn-0", CChan: "chan-4", Version: "ics20"})
	return s
}

func want(t *testing.T, got, e api.Errno) {
	t.Helper()
	if got != e {
		t.Error(got, "instead of", e)
	}
}

// refused: the error, and nothing changed.
func refused(t *testing.T, s *store.Store, e api.Errno, do func() api.Errno) {
	t.Helper()
	before := s.Root()
	if got := do(); got != e || !bytes.Equal(before, s.Root()) {
		t.Error(got, "instead of", e)
	}
}

func register(t *testing.T, s *store.Store, owner, via string) func() api.Errno {
	return func() api.Errno {
		id, e := ica.Register(s, owner, via)
		if e != api.OK && id != "" {
			t.Error(id)
		}
		return e
	}
}

func TestAddressAndActive(t *testing.T) {
	if ica.Address("conn-1", "ann") != "ica.conn-1.ann" {
		t.Error(ica.Address("conn-1", "ann"))
	}
	s := ready()
	if id, ok := ica.Active(s, "conn-0", "ann"); ok || id != "" {
		t.Error(id, ok)
	}
	s.Set("ica/active/conn-0/ann", []byte("whatever"))
	if id, ok := ica.Active(s, "conn-0", "ann"); !ok || id != "whatever" {
		t.Error(id, ok)
	}
	if _, ok := ica.Active(s, "conn-0", strings.Repeat("a", 300)); ok {
		t.Error("a key that is too long")
	}
}

func TestBytesAndParse(t *testing.T) {
	l := []api.Order{{To: "bob", Denom: "atom", Amt: of(258)}, {To: "", Denom: "/", Amt: api.U{}}}
	form := wire.N(nil, 2)
	for _, o := range l {
		form = wire.B(wire.T(wire.T(form, o.To), o.Denom), limb.Bytes(o.Amt))
	}
	if !bytes.Equal(ica.Bytes(l), form) || !bytes.Equal(ica.Bytes(nil), wire.N(nil, 0)) {
		t.Error(ica.Bytes(l))
	}
	if got, e := ica.Parse(form); e != api.OK || !reflect.DeepEqual(got, l) {
		t.Error(got, e)
	}
	if got, e := ica.Parse(wire.N(nil, 0)); e != api.OK || len(got) != 0 {
		t.Error(got, e)
	}
	if got, e := ica.Parse(ica.Bytes(make([]api.Order, 8))); e != api.OK || len(got) != 8 {
		t.Error(got, e)
	}
	many := make([]api.Order, 30000)
	if b := ica.Bytes(many); len(b) != 8+30000*(4+4+36) {
		t.Error(len(b))
	}
	bad := [][]byte{nil, form[:len(form)-1], append(bytes.Clone(form), 0), ica.Bytes(make([]api.Order, 9)), wire.N(nil, 9), wire.N(nil, 1<<63), wire.N(nil, 1),
		wire.B(wire.T(wire.T(wire.N(nil, 1), "bob"), "atom"), make([]byte, 31)), wire.B(wire.T(wire.T(wire.N(nil, 1), "bob"), "atom"), make([]byte, 33))}
	for i, b := range bad {
		if got, e := ica.Parse(b); e != api.ErrData || len(got) != 0 {
			t.Error(i, got, e)
		}
	}
}

func TestRegister(t *testing.T) {
	s := ready()
	refused(t, s, api.ErrOwner, register(t, s, "Ann", "conn-0"))
	refused(t, s, api.ErrOwner, register(t, s, "ann", "Conn"))
	refused(t, s, api.ErrOwner, register(t, s, "", "conn-7"))
	refused(t, s, api.ErrConn, register(t, s, "ann", "conn-7"))
	refused(t, s, api.ErrState, register(t, s, "ann", "conn-1")) // of a connection that isn't open
	if id, e := ica.Register(s, "ann", "conn-0"); id != "chan-0" || e != api.OK {
		t.Fatal(id, e)
	}
	if c, _ := chans.Get(s, "chan-0"); c != (chans.Chan{State: conn.Init, Ordered: true, Port: "control", CPort: "host", Conn: "conn-0", Version: "ann"}) {
		t.Error(c)
	}
	if b, _ := s.Get("ica/active/conn-0/ann"); string(b) != "chan-0" {
		t.Error(b)
	}
	for _, state := range []uint64{conn.Init, conn.Tried, conn.Open, 0, 9} {
		c, _ := chans.Get(s, "chan-0")
		c.State = state
		chans.Put(s, "chan-0", c)
		refused(t, s, api.ErrState, register(t, s, "ann", "conn-0"))
	}
	if id, e := ica.Register(s, "bob", "conn-0"); id != "chan-1" || e != api.OK {
		t.Error(id, e)
	}
	c, _ := chans.Get(s, "chan-0")
	c.State = conn.Closed
	chans.Put(s, "chan-0", c)
	if id, e := ica.Register(s, "ann", "conn-0"); id != "chan-2" || e != api.OK {
		t.Error(id, e)
	}
	if id, _ := ica.Active(s, "conn-0", "ann"); id != "chan-2" {
		t.Error(id)
	}
	s.Set("ica/active/conn-0/cyd", []byte("chan-77")) // no such channel
	if id, e := ica.Register(s, "cyd", "conn-0"); id != "chan-3" || e != api.OK {
		t.Error(id, e)
	}
	s.Set("ica/active/conn-7/ann", []byte("chan-1"))
	refused(t, s, api.ErrState, register(t, s, "ann", "conn-7")) // ahead of ErrConn
}

func TestExecute(t *testing.T) {
	s := ready()
	chans.Put(s, "chan-0", chans.Chan{State: conn.Open, Ordered: true, Port: "control", CPort: "host", Conn: "conn-0", CChan: "chan-5", Version: "ann"})
	s.Set(chans.Next("chan-0"), wire.N(nil, 4))
	l := []api.Order{{To: "bob", Denom: "atom", Amt: of(3)}}
	many := make([]api.Order, 9)
	execute := func(owner, id string, l []api.Order, height uint64) func() api.Errno {
		return func() api.Errno {
			p, e := ica.Execute(s, owner, id, l, height, 0)
			if !reflect.DeepEqual(p, api.Packet{}) {
				t.Error(p)
			}
			return e
		}
	}
	refused(t, s, api.ErrChan, execute("bob", "chan-7", many, 1))
	refused(t, s, api.ErrPort, execute("bob", "chan-8", many, 1))
	refused(t, s, api.ErrPort, execute("bob", "chan-9", many, 1))
	refused(t, s, api.ErrOwner, execute("bob", "chan-0", many, 1))
	refused(t, s, api.ErrMany, execute("ann", "chan-0", many, 1))
	refused(t, s, api.ErrLate, execute("ann", "chan-0", many[1:], 1))
	refused(t, s, api.ErrLong, execute("ann", "chan-0", []api.Order{{To: strings.Repeat("x", 70000)}}, 1))
	p, e := ica.Execute(s, "ann", "chan-0", l, 9, 8)
	if e != api.OK || !reflect.DeepEqual(p, api.Packet{Src: "chan-0", Dst: "chan-5", Seq: 4, Data: ica.Bytes(l), Height: 9, Time: 8}) {
		t.Error(p, e)
	}
	if b, _ := s.Get(packet.Commit("chan-0", 4)); !bytes.Equal(b, packet.Hash(p)) {
		t.Error("commit")
	}
	if _, e := ica.Execute(s, "ann", "chan-0", nil, 0, 0); e != api.OK {
		t.Error("no orders", e)
	}
}

func TestReceive(t *testing.T) {
	s := ready()
	account := ica.Address("conn-0", "ann")
	bank.Mint(s, account, "atom", of(5))
	in := func(l ...api.Order) api.Packet {
		return api.Packet{Src: "chan-3", Dst: "chan-8", Seq: 1, Data: ica.Bytes(l)}
	}
	order := func(to, denom string, n uint64) api.Order { return api.Order{To: to, Denom: denom, Amt: of(n)} }
	receive := func(p api.Packet) func() api.Errno {
		return func() api.Errno { return ica.Receive(s, p) }
	}
	p := in(order("bob", "atom", 1))
	for _, dst := range []string{"chan-7", "chan-9", "", "Chan"} {
		p.Dst = dst
		p.Data = nil
		refused(t, s, api.ErrPort, receive(p))
	}
	p.Dst = "chan-8"
	refused(t, s, api.ErrData, receive(p))
	refused(t, s, api.ErrFunds, receive(in(order("bob", "atom", 3), order("cyd", "atom", 4))))
	refused(t, s, api.ErrName, receive(in(order("bob", "atom", 3), order("Cyd", "atom", 4))))
	refused(t, s, api.ErrDenom, receive(in(order("bob", "atom", 3), order("Cyd", "", 4))))
	refused(t, s, api.ErrZero, receive(in(order("bob", "atom", 3), order("cyd", "atom", 0))))
	refused(t, s, api.OK, receive(in()))
	want(t, ica.Receive(s, in(order("bob", "atom", 3), order("cyd", "atom", 1), order(account, "atom", 1), order("bob", "atom", 1))), api.OK)
	if bank.Bal(s, "bob", "atom") != of(4) || bank.Bal(s, "cyd", "atom") != of(1) || bank.Bal(s, account, "atom") != of(0) {
		t.Error("balances")
	}
	// it isn't the sender's business who pays: the account of the channel does
	bank.Mint(s, "ann", "atom", of(9))
	refused(t, s, api.ErrFunds, receive(in(order("bob", "atom", 1))))
}

func TestNilStoreEnds(t *testing.T) {
	ica.Active(nil, "conn-0", "ann")
	ica.Register(nil, "ann", "conn-0")
	ica.Execute(nil, "ann", "chan-0", nil, 0, 0)
	ica.Receive(nil, api.Packet{})
}
