package chain_test

import (
	"bytes"
	"strings"
	"testing"

	"isthmus/api"
	"isthmus/auth"
	"isthmus/bank"
	"isthmus/chain"
	"isthmus/chans"
	"isthmus/client"
	"isthmus/conn"
	"isthmus/fee"
	"isthmus/ica"
	"isthmus/limb"
	"isthmus/merkle"
	"isthmus/packet"
	"isthmus/store"
	"isthmus/transfer"
	"isthmus/vals"
	"isthmus/wire"
)

func fourSet() []api.Val {
	return []api.Val{{Name: "a", Power: 1}, {Name: "b", Power: 1}, {Name: "c", Power: 1}, {Name: "d", Power: 1}}
}

// follow: the client id of s trusts what of has now, as that of a height.
func follow(s *store.Store, id string, of *store.Store, height uint64) {
	s.Set("ibc/client/"+id, wire.F(wire.N(wire.N(wire.T(nil, "other"), height), 1000), false))
	s.Set("ibc/cons/"+id+"/"+client.Hex(height), wire.B(wire.B(wire.N(nil, height), of.Root()), vals.Hash(fourSet())))
}

func prove(of *store.Store, key string) api.Proof {
	p, _ := merkle.Prove(of.Pairs(""), key)
	return p
}

// ends: two stores with open channels of each kind over conn-0 and conn-0: chan-0 of transfers, chan-1 from control to host, chan-2 of other ports.
func ends() (*store.Store, *store.Store) {
	a, _ := store.New(nil)
	b, _ := store.New(nil)
	for _, s := range []*store.Store{a, b} {
		s.Set(conn.Key("conn-0"), conn.Bytes(conn.Conn{State: conn.Open, Client: "client-0", CClient: "client-0", CConn: "conn-0"}))
		chans.Put(s, "chan-0", chans.Chan{State: conn.Open, Port: "transfer", CPort: "transfer", Conn: "conn-0", CChan: "chan-0", Version: "ics20"})
		chans.Put(s, "chan-2", chans.Chan{State: conn.Open, Port: "x", CPort: "y", Conn: "conn-0", CChan: "chan-2", Version: "v"})
		for _, id := range []string{"chan-0", "chan-1", "chan-2"} {
			for _, key := range []string{chans.Next(id), chans.Recv(id), chans.Acked(id)} {
				s.Set(key, wire.N(nil, 1))
			}
		}
		auth.Create(s, "ann", make([]byte, 32))
		bank.Mint(s, "ann", "atom", of(50))
		bank.Mint(s, "ann", "fuel", of(50))
		bank.Mint(s, "ica.conn-0.ann", "atom", of(5))
	}
	chans.Put(a, "chan-1", chans.Chan{State: conn.Open, Ordered: true, Port: "control", CPort: "host", Conn: "conn-0", CChan: "chan-1", Version: "ann"})
	chans.Put(b, "chan-1", chans.Chan{State: conn.Open, Ordered: true, Port: "host", CPort: "control", Conn: "conn-0", CChan: "chan-1", Version: "ann"})
	follow(a, "client-0", b, 5)
	follow(b, "client-0", a, 5)
	return a, b
}

// Every kind is its layers' call, with just these of the message's fields.
func TestDoIsTheLayersCalls(t *testing.T) {
	a, b := ends()
	header := api.Header{Chain: "other", Height: 6, Time: 8, Root: make([]byte, 32), Vals: vals.Hash(fourSet()), Next: vals.Hash(fourSet())}
	twin := header
	twin.Time = 9
	votes := []string{"a", "b", "c"}
	news := client.News{Header: header, Vals: fourSet(), Trusted: fourSet()[:1], Votes: votes, At: 5}
	other := client.News{Header: twin, Vals: fourSet(), Trusted: fourSet()[:1], Votes: votes[:2], At: 5}
	fine := other
	fine.Votes = votes
	far := news // a jump: the set trusted counts
	far.Header.Height, far.Trusted = 9, fourSet()
	farMsg := func(kind int, u, w client.News) api.Msg {
		return api.Msg{Kind: kind, Client: "client-0", Header: u.Header, Vals: u.Vals, Votes: u.Votes, Trusted: u.Trusted, At: u.At, Other: w.Header, OtherVals: w.Vals, OtherVotes: w.Votes}
	}
	twinFar := far
	twinFar.Header.Time = 9
	b.Set(conn.Key("conn-3"), conn.Bytes(conn.Conn{State: conn.Init, Client: "client-0", CClient: "client-0"}))
	b.Set(conn.Key("conn-4"), conn.Bytes(conn.Conn{State: conn.Tried, Client: "client-0", CClient: "client-0", CConn: "conn-4"}))
	b.Set(conn.Key("conn-5"), conn.Bytes(conn.Conn{State: conn.Open, Client: "client-0", CClient: "client-0", CConn: "conn-5"}))
	a.Set(conn.Key("conn-4"), conn.Bytes(conn.Conn{State: conn.Init, Client: "client-0", CClient: "client-0"}))
	a.Set(conn.Key("conn-5"), conn.Bytes(conn.Conn{State: conn.Tried, Client: "client-0", CClient: "client-0", CConn: "conn-5"}))
	chans.Put(b, "chan-3", chans.Chan{State: conn.Init, Port: "transfer", CPort: "transfer", Conn: "conn-0", Version: "ics20"})
	chans.Put(b, "chan-4", chans.Chan{State: conn.Tried, Port: "transfer", CPort: "transfer", Conn: "conn-0", CChan: "chan-4", Version: "ics20"})
	chans.Put(b, "chan-5", chans.Chan{State: conn.Open, Port: "transfer", CPort: "transfer", Conn: "conn-0", CChan: "chan-5", Version: "ics20"})
	chans.Put(b, "chan-6", chans.Chan{State: conn.Closed, Port: "transfer", CPort: "transfer", Conn: "conn-0", CChan: "chan-6", Version: "ics20"})
	chans.Put(b, "chan-7", chans.Chan{State: conn.Init, Ordered: true, Port: "control", CPort: "host", Conn: "conn-0", Version: "ann"})
	long := strings.Repeat("o", 25)
	chans.Put(b, "chan-8", chans.Chan{State: conn.Init, Ordered: true, Port: "control", CPort: "host", Conn: "conn-0", Version: long})
	for id, state := range map[string]uint64{"chan-4": conn.Init, "chan-5": conn.Tried, "chan-6": conn.Open} {
		c := chans.Chan{State: state, Port: "transfer", CPort: "transfer", Conn: "conn-0", Version: "ics20"}
		if state != conn.Init {
			c.CChan = id
		}
		chans.Put(a, id, c)
	}
	follow(a, "client-0", b, 5)
	of := limb.Of
	pay := api.Pay{Denom: "fuel", Recv: of(3), Ack: of(2), Timeout: of(1)}
	orders := []api.Order{{To: "bob", Denom: "atom", Amt: of(3)}}
	a.Set(packet.Commit("chan-0", 7), []byte{1})
	drop := func(_ string, e api.Errno) api.Errno { return e }
	cases := []struct {
		what string
		m    api.Msg
		call func(s *store.Store) api.Errno
		want api.Errno
	}{
		{"Send", api.Msg{Kind: 1, To: "bob", Denom: "atom", Amt: of(5)}, func(s *store.Store) api.Errno { return bank.Send(s, "ann", "bob", "atom", of(5)) }, api.OK},
		{"Send too much", api.Msg{Kind: 1, To: "bob", Denom: "atom", Amt: of(51)}, func(s *store.Store) api.Errno { return api.ErrFunds }, api.ErrFunds},
		{"ClientCreate", api.Msg{Kind: 2, Header: header, Period: 44}, func(s *store.Store) api.Errno { return drop(client.Create(s, header, 44, 8)) }, api.OK},
		{"ClientCreate ahead", api.Msg{Kind: 2, Header: api.Header{Chain: "other", Height: 1, Time: 19}, Period: 44}, nil, api.ErrTime},
		{"ClientUpdate", farMsg(3, news, client.News{}), func(s *store.Store) api.Errno { return client.Update(s, "client-0", news, 8) }, api.OK},
		{"ClientUpdate, a jump", farMsg(3, far, client.News{}), func(s *store.Store) api.Errno { return client.Update(s, "client-0", far, 8) }, api.OK},
		{"ClientUpdate over", farMsg(3, news, client.News{}), nil, api.OK},
		{"Misbehave", farMsg(4, news, fine), func(s *store.Store) api.Errno { return client.Misbehave(s, "client-0", news, fine, 8) }, api.OK},
		{"Misbehave, a jump", farMsg(4, far, twinFar), func(s *store.Store) api.Errno { return client.Misbehave(s, "client-0", far, twinFar, 8) }, api.OK},
		{"Misbehave, too few votes", farMsg(4, news, other), nil, api.ErrQuorum},
		{"ConnInit", api.Msg{Kind: 5, Client: "client-0", CClient: "client-9"}, func(s *store.Store) api.Errno { return drop(conn.Begin(s, "client-0", "client-9")) }, api.OK},
		{"ConnTry", api.Msg{Kind: 6, Client: "client-0", CClient: "client-0", CConn: "conn-3", Height: 5, Proof: prove(b, conn.Key("conn-3"))}, func(s *store.Store) api.Errno {
			return drop(conn.Try(s, "client-0", "client-0", "conn-3", 5, prove(b, conn.Key("conn-3")), 8))
		}, api.OK},
		{"ConnAck", api.Msg{Kind: 7, Conn: "conn-4", CConn: "conn-4", Height: 5, Proof: prove(b, conn.Key("conn-4"))}, func(s *store.Store) api.Errno {
			return conn.Ack(s, "conn-4", "conn-4", 5, prove(b, conn.Key("conn-4")), 8)
		}, api.OK},
		{"ConnConfirm", api.Msg{Kind: 8, Conn: "conn-5", Height: 5, Proof: prove(b, conn.Key("conn-5"))}, func(s *store.Store) api.Errno {
			return conn.Confirm(s, "conn-5", 5, prove(b, conn.Key("conn-5")), 8)
		}, api.OK},
		{"ChanInit", api.Msg{Kind: 9, Conn: "conn-0", Port: "transfer", CPort: "transfer", Version: "ics20"}, func(s *store.Store) api.Errno {
			return drop(chans.Begin(s, "conn-0", "transfer", "transfer", false, "ics20"))
		}, api.OK},
		{"ChanInit, host", api.Msg{Kind: 9, Conn: "conn-0", Port: "host", CPort: "control", Ordered: true, Version: "ann"}, nil, api.ErrPort},
		{"ChanInit, control", api.Msg{Kind: 9, Conn: "conn-0", Port: "control", CPort: "host", Ordered: true, Version: "ann"}, func(s *store.Store) api.Errno { return drop(ica.Register(s, "ann", "conn-0")) }, api.OK},
		{"ChanInit, control to another", api.Msg{Kind: 9, Conn: "x", Port: "control", CPort: "control", Version: "bob"}, nil, api.ErrPort},
		{"ChanInit, control without order", api.Msg{Kind: 9, Conn: "x", Port: "control", CPort: "host", Version: "bob"}, nil, api.ErrOrder},
		{"ChanInit, control of another", api.Msg{Kind: 9, Conn: "x", Port: "control", CPort: "host", Ordered: true, Version: "bob"}, nil, api.ErrOwner},
		{"ChanInit, control over nothing", api.Msg{Kind: 9, Conn: "x", Port: "control", CPort: "host", Ordered: true, Version: "ann"}, nil, api.ErrConn},
		{"ChanTry", api.Msg{Kind: 10, Conn: "conn-0", CChan: "chan-3", Port: "transfer", CPort: "transfer", Version: "ics20", Height: 5, Proof: prove(b, chans.Key("chan-3"))}, func(s *store.Store) api.Errno {
			return drop(chans.Try(s, chans.Chan{Port: "transfer", CPort: "transfer", Conn: "conn-0", CChan: "chan-3", Version: "ics20"}, 5, prove(b, chans.Key("chan-3")), 8))
		}, api.OK},
		{"ChanTry, host", api.Msg{Kind: 10, Conn: "conn-0", CChan: "chan-7", Port: "host", CPort: "control", Ordered: true, Version: "ann", Height: 5, Proof: prove(b, chans.Key("chan-7"))}, func(s *store.Store) api.Errno {
			return drop(chans.Try(s, chans.Chan{Ordered: true, Port: "host", CPort: "control", Conn: "conn-0", CChan: "chan-7", Version: "ann"}, 5, prove(b, chans.Key("chan-7")), 8))
		}, api.OK},
		{"ChanTry, host without an address", api.Msg{Kind: 10, Conn: "conn-0", CChan: "chan-8", Port: "host", CPort: "control", Ordered: true, Version: long, Height: 5, Proof: prove(b, chans.Key("chan-8"))}, nil, api.ErrOwner},
		{"ChanTry, host over nothing", api.Msg{Kind: 10, Conn: "x", CChan: "chan-8", Port: "host", Version: "Ann"}, nil, api.ErrOwner},
		{"ChanTry, control without an address", api.Msg{Kind: 10, Conn: "conn-0", CChan: "chan-8", Port: "control", CPort: "host", Ordered: true, Version: long}, nil, api.ErrPort},
		{"ChanAck", api.Msg{Kind: 11, Chan: "chan-4", CChan: "chan-4", Height: 5, Proof: prove(b, chans.Key("chan-4"))}, func(s *store.Store) api.Errno {
			return chans.Ack(s, "chan-4", "chan-4", 5, prove(b, chans.Key("chan-4")), 8)
		}, api.OK},
		{"ChanConfirm", api.Msg{Kind: 12, Chan: "chan-5", Height: 5, Proof: prove(b, chans.Key("chan-5"))}, func(s *store.Store) api.Errno {
			return chans.Confirm(s, "chan-5", 5, prove(b, chans.Key("chan-5")), 8)
		}, api.OK},
		{"ChanClose", api.Msg{Kind: 13, Chan: "chan-1"}, func(s *store.Store) api.Errno { return chans.Close(s, "chan-1") }, api.OK},
		{"ChanClose of nothing", api.Msg{Kind: 13, Chan: "chan-9"}, nil, api.ErrChan},
		{"ChanClose of transfers", api.Msg{Kind: 13, Chan: "chan-0"}, nil, api.ErrOwner},
		{"ChanCloseConfirm", api.Msg{Kind: 14, Chan: "chan-6", Height: 5, Proof: prove(b, chans.Key("chan-6"))}, func(s *store.Store) api.Errno {
			return chans.CloseConfirm(s, "chan-6", 5, prove(b, chans.Key("chan-6")), 8)
		}, api.OK},
		{"Transfer", api.Msg{Kind: 15, Chan: "chan-0", Denom: "atom", Amt: of(4), To: "bob", Height: 77, Time: 88}, func(s *store.Store) api.Errno {
			_, e := transfer.Send(s, "chan-0", "ann", "atom", of(4), "bob", 77, 88)
			return e
		}, api.OK},
		{"PayFee", api.Msg{Kind: 19, Chan: "chan-0", Next: 7, Pay: pay}, func(s *store.Store) api.Errno { return fee.Ahead(s, "ann", "chan-0", 7, pay) }, api.OK},
		{"Execute", api.Msg{Kind: 20, Chan: "chan-1", Orders: orders, Height: 77, Time: 88}, func(s *store.Store) api.Errno {
			_, e := ica.Execute(s, "ann", "chan-1", orders, 77, 88)
			return e
		}, api.OK},
		{"Rekey", api.Msg{Kind: 21, Ack: bytes.Repeat([]byte{7}, 32)}, func(s *store.Store) api.Errno { return auth.Rekey(s, "ann", bytes.Repeat([]byte{7}, 32)) }, api.OK},
		{"Rekey of 31 bytes", api.Msg{Kind: 21, Ack: make([]byte, 31)}, nil, api.ErrSig},
		{"no kind", api.Msg{To: "bob", Denom: "atom", Amt: of(5)}, nil, api.ErrKind},
		{"no kind below 0", api.Msg{Kind: -1}, nil, api.ErrKind},
		{"no kind above", api.Msg{Kind: 22}, nil, api.ErrKind},
	}
	for _, c := range cases {
		did, called := a.Branch(), a.Branch()
		e := chain.Do(did, "ann", 6, 8, c.m)
		if e != c.want {
			t.Error(c.what, e)
		}
		if c.call != nil && (c.call(called) != e || !bytes.Equal(did.Root(), called.Root())) {
			t.Error(c.what, "isn't the call")
		}
		if (e == api.ErrKind || e != api.OK && c.m.Kind == api.Send) && !bytes.Equal(did.Root(), a.Root()) {
			t.Error(c.what, "changed something")
		}
	}
	over := a.Branch()
	want(t, chain.Do(over, "ann", 6, 1005, farMsg(3, news, client.News{})), api.ErrExpired)
	want(t, chain.Do(over, "bob", 6, 8, api.Msg{Kind: api.ChanClose, Chan: "chan-1"}), api.ErrOwner)
	over = b.Branch()
	want(t, chain.Do(over, "ann", 6, 8, api.Msg{Kind: api.ChanClose, Chan: "chan-1"}), api.ErrOwner) // the host's end
	chain.Do(nil, "ann", 6, 8, cases[0].m)
}

func sentBy(t *testing.T, s *store.Store, id string, data []byte, height uint64) api.Packet {
	t.Helper()
	p, e := packet.Send(s, id, data, height, 0)
	want(t, e, api.OK)
	return p
}

// What is answered of a packet tells whether it was done, by the port it comes to, and who brought it.
func TestRecvByPorts(t *testing.T) {
	a, b := ends()
	fine := transfer.Bytes(transfer.Data{Denom: "atom", From: "zed", To: "bob", Amt: of(3)})
	back := transfer.Bytes(transfer.Data{Denom: "transfer/chan-0/atom", From: "zed", To: "bob", Amt: of(3)}) // the escrow has nothing
	pays := func(n uint64) []byte { return ica.Bytes([]api.Order{{To: "bob", Denom: "atom", Amt: of(n)}}) }
	cases := []struct {
		id    string
		data  []byte
		done  bool
		denom string // of which bob has 3
	}{
		{"chan-0", fine, true, "transfer/chan-0/atom"}, {"chan-0", back, false, ""}, {"chan-0", []byte("x"), false, ""},
		{"chan-1", pays(3), true, "atom"}, {"chan-1", pays(6), false, ""}, {"chan-1", fine, false, ""},
		{"chan-2", fine, false, ""}, {"chan-2", pays(3), false, ""},
	}
	for i, c := range cases {
		x := a.Branch()
		y := b.Branch()
		p := sentBy(t, x, c.id, c.data, 0)
		follow(y, "client-0", x, 6)
		m := api.Msg{Kind: api.Recv, Packet: p, Height: 6, Proof: prove(x, packet.Commit(c.id, 1))}
		want(t, chain.Do(y, "ros", 7, 8, m), api.OK)
		ack := wire.T(wire.F(nil, c.done), "ros")
		told, _ := y.Get(packet.Told(c.id, 1))
		hash, _ := y.Get(packet.AckKey(c.id, 1))
		if !bytes.Equal(told, ack) || !bytes.Equal(hash, packet.HashAck(ack)) {
			t.Error(i, told)
		}
		for _, denom := range []string{"atom", "transfer/chan-0/atom"} {
			n := uint64(0)
			if denom == c.denom {
				n = 3
			}
			if bank.Bal(y, "bob", denom) != of(n) {
				t.Error(i, denom)
			}
		}
		if e := chain.Do(y, "ros", 7, 8, m); e != api.ErrDone {
			t.Error(i, e)
		}
	}
}

// The time and height of a limit's window are the block's.
func TestRecvAtTheBlocksHeight(t *testing.T) {
	a, b := ends()
	denom := "transfer/chan-0/atom"
	transfer.SetLimit(b, "chan-0", denom, transfer.Limit{Quota: of(9), Window: 3, Start: 1})
	p := sentBy(t, a, "chan-0", transfer.Bytes(transfer.Data{Denom: "atom", From: "zed", To: "bob", Amt: of(3)}), 0)
	follow(b, "client-0", a, 6)
	want(t, chain.Do(b, "ros", 77, 8, api.Msg{Kind: api.Recv, Packet: p, Height: 6, Proof: prove(a, packet.Commit("chan-0", 1))}), api.OK)
	if l, _ := transfer.GetLimit(b, "chan-0", denom); l.Start != 77 || l.Used != of(3) {
		t.Error(l)
	}
}

// A packet's end: who pays, who is paid, and what goes back.
func TestAckAndTimeout(t *testing.T) {
	cases := []struct {
		what          string
		ack           []byte // nothing: too late
		e             api.Errno
		atom          uint64 // ann's
		ros, rob, ann uint64 // of 3, 2, 1 that ann paid ahead; she kept 44
	}{
		{"done", wire.T(wire.F(nil, true), "ros"), api.OK, 46, 3, 2, 45},
		{"not done", wire.T(wire.F(nil, false), "ros"), api.OK, 50, 3, 2, 45},
		{"done, by nobody", wire.T(wire.F(nil, true), ""), api.OK, 46, 0, 2, 48},
		{"too late", nil, api.OK, 50, 0, 1, 49},
		{"no flag", []byte{2, 0, 0, 0, 0}, api.ErrData, 0, 0, 0, 0},
		{"a flag alone", []byte{1}, api.ErrData, 0, 0, 0, 0},
		{"more", append(wire.T(wire.F(nil, true), "ros"), 0), api.ErrData, 0, 0, 0, 0},
	}
	for _, c := range cases {
		a, b := ends()
		p, e := transfer.Send(a, "chan-0", "ann", "atom", of(4), "bob", 6, 0)
		want(t, e, api.OK)
		want(t, fee.Ahead(a, "ann", "chan-0", 1, api.Pay{Denom: "fuel", Recv: of(3), Ack: of(2), Timeout: of(1)}), api.OK)
		m := api.Msg{Kind: api.Timeout, Packet: p, Height: 6, Proof: prove(b, packet.Receipt("chan-0", 1))}
		if c.ack != nil {
			packet.Write(b, p, c.ack)
			m = api.Msg{Kind: api.Ack, Packet: p, Ack: c.ack, Height: 6, Proof: prove(b, packet.AckKey("chan-0", 1))}
		}
		follow(a, "client-0", b, 6)
		if e := chain.Do(a, "rob", 7, 8, m); e != c.e {
			t.Error(c.what, e)
		}
		if c.e != api.OK {
			continue
		}
		if bank.Bal(a, "ann", "atom") != of(c.atom) || bank.Bal(a, "ros", "fuel") != of(c.ros) || bank.Bal(a, "rob", "fuel") != of(c.rob) || bank.Bal(a, "ann", "fuel") != of(c.ann) {
			t.Error(c.what, bank.Bal(a, "ann", "atom"), bank.Bal(a, "ros", "fuel"), bank.Bal(a, "rob", "fuel"), bank.Bal(a, "ann", "fuel"))
		}
		if _, ok := a.Get(packet.Commit("chan-0", 1)); ok {
			t.Error(c.what, "it is on its way still")
		}
	}
}

func TestEndsErrors(t *testing.T) {
	a, b := ends()
	p, _ := transfer.Send(a, "chan-0", "ann", "atom", of(4), "bob", 6, 0)
	follow(a, "client-0", b, 6)
	m := api.Msg{Kind: api.Timeout, Packet: p, Height: 6, Proof: prove(b, packet.Receipt("chan-0", 1))}
	bank.Send(a, "escrow.chan-0", "thief", "atom", of(1))
	want(t, chain.Do(a.Branch(), "rob", 7, 8, m), api.ErrFunds) // the Refund's
	early := m
	early.Height = 5
	want(t, chain.Do(a.Branch(), "rob", 7, 8, early), api.ErrEarly)
	bank.Send(a, "thief", "escrow.chan-0", "atom", of(1))
	want(t, fee.Ahead(a, "ann", "chan-0", 1, api.Pay{Denom: "fuel", Recv: of(3)}), api.OK)
	bank.Send(a, fee.Pool, "thief", "fuel", of(1))
	want(t, chain.Do(a.Branch(), "rob", 7, 8, m), api.ErrFunds) // the Settle's
	bank.Send(a, "thief", fee.Pool, "fuel", of(1))
	want(t, chain.Do(a, "rob", 7, 8, m), api.OK)
	if bank.Bal(a, "ann", "fuel") != of(50) {
		t.Error("ann")
	}
	// an Ack that is refused ends nothing
	a, b = ends()
	p, _ = transfer.Send(a, "chan-0", "ann", "atom", of(4), "bob", 0, 0)
	ack := wire.T(wire.F(nil, false), "ros")
	packet.Write(b, p, wire.T(wire.F(nil, true), "ros"))
	follow(a, "client-0", b, 6)
	m = api.Msg{Kind: api.Ack, Packet: p, Ack: ack, Height: 6, Proof: prove(b, packet.AckKey("chan-0", 1))}
	want(t, chain.Do(a.Branch(), "rob", 7, 8, m), api.ErrProof)
	m.Ack = []byte{9}
	want(t, chain.Do(a.Branch(), "rob", 7, 8, m), api.ErrProof) // ahead of ErrData
	m.Packet.Seq = 2
	want(t, chain.Do(a.Branch(), "rob", 7, 8, m), api.ErrPacket)
	// other ports have nothing that goes back
	for _, id := range []string{"chan-1", "chan-2"} {
		a, b := ends()
		p := sentBy(t, a, id, []byte("x"), 6)
		follow(a, "client-0", b, 6)
		m := api.Msg{Kind: api.Timeout, Packet: p, Next: 1, Height: 6, Proof: prove(b, packet.Receipt(id, 1))}
		if id == "chan-1" {
			m.Proof = prove(b, chans.Recv(id))
			wrong := m
			wrong.Next = 2
			want(t, chain.Do(a, "rob", 7, 8, wrong), api.ErrDone)
		}
		want(t, chain.Do(a, "rob", 7, 8, m), api.OK)
	}
}
