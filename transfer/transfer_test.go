package transfer_test

import (
	"bytes"
	"math/rand"
	"reflect"
	"strings"
	"testing"

	"isthmus/api"
	"isthmus/bank"
	"isthmus/chans"
	"isthmus/client"
	"isthmus/conn"
	"isthmus/limb"
	"isthmus/name"
	"isthmus/packet"
	"isthmus/store"
	"isthmus/transfer"
	"isthmus/wire"
)

var most = api.U{1<<64 - 1, 1<<64 - 1, 1<<64 - 1, 1<<64 - 1}

func of(n uint64) api.U { return limb.Of(n) }

// ready: a store with an open channel of transfers, chan-0 to chan-7, and ann with 50 atom.
func ready() *store.Store {
	s, _ := store.New(nil)
	s.Set("ibc/client/client-0", wire.F(wire.N(wire.N(wire.T(nil, "other"), 3), 1000), false))
	s.Set("ibc/cons/client-0/"+client.Hex(3), wire.B(wire.B(wire.N(nil, 30), make([]byte, 32)), make([]byte, 32)))
	s.Set(conn.Key("conn-0"), conn.Bytes(conn.Conn{State: conn.Open, Client: "client-0", CClient: "client-3", CConn: "conn-5"}))
	chans.Put(s, "chan-0", chans.Chan{State: conn.Open, Port: "transfer", CPort: "transfer", Conn: "conn-0", CChan: "chan-7", Version: "ics20"})
	chans.Put(s, "chan-1", chans.Chan{State: conn.Open, Ordered: true, Port: "control", CPort: "host", Conn: "conn-0", CChan: "chan-8", Version: "ann"})
	s.Set(chans.Next("chan-0"), wire.N(nil, 1))
	bank.Mint(s, "ann", "atom", of(50))
	return s
}

func want(t *testing.T, got, e api.Errno) {
	t.Helper()
	if got != e {
		t.Error(got, "instead of", e)
	}
}

// refused: the error, and nothing changed.
func refused(t *testing.T, s *store.Store, e api.Errno, do func() api.Errno) {
	t.Helper()
	before := s.Root()
	if got := do(); got != e || !bytes.Equal(before, s.Root()) {
		t.Error(got, "instead of", e)
	}
}

func TestBytesAndParse(t *testing.T) {
	d := transfer.Data{"transfer/chan-0/atom", "ann", "bob", of(258)}
	form := wire.B(wire.T(wire.T(wire.T(nil, d.Denom), "ann"), "bob"), limb.Bytes(of(258)))
	if !bytes.Equal(transfer.Bytes(d), form) {
		t.Error(transfer.Bytes(d))
	}
	if got, e := transfer.Parse(form); got != d || e != api.OK {
		t.Error(got, e)
	}
	bad := [][]byte{nil, form[:len(form)-1], append(bytes.Clone(form), 0),
		wire.B(wire.T(wire.T(wire.T(nil, "atom"), "ann"), "bob"), make([]byte, 31)),
		wire.B(wire.T(wire.T(wire.T(nil, "atom"), "ann"), "bob"), append(make([]byte, 32), 1)),
		transfer.Bytes(transfer.Data{"atom", "ann", "bob", api.U{}}), transfer.Bytes(transfer.Data{"a/b", "ann", "bob", of(1)}), transfer.Bytes(transfer.Data{"", "ann", "bob", of(1)}),
		transfer.Bytes(transfer.Data{"atom", "Ann", "bob", of(1)}), transfer.Bytes(transfer.Data{"atom", "ann", "", of(1)}), transfer.Bytes(transfer.Data{"atom", "", "bob", of(1)}), transfer.Bytes(transfer.Data{"atom", "ann", "b/c", of(1)})}
	for i, b := range bad {
		if got, e := transfer.Parse(b); got != (transfer.Data{}) || e != api.ErrData {
			t.Error(i, got, e)
		}
		s := ready()
		p := api.Packet{Src: "chan-7", Dst: "chan-0", Data: b}
		refused(t, s, api.ErrData, func() api.Errno { return transfer.Receive(s, p, 1) })
		refused(t, s, api.ErrData, func() api.Errno { return transfer.Refund(s, p) })
	}
}

func TestLimits(t *testing.T) {
	s := ready()
	l := transfer.Limit{of(10), 5, 6, of(7)}
	transfer.SetLimit(s, "chan-0", "atom", l)
	form := wire.B(wire.N(wire.N(wire.B(nil, limb.Bytes(of(10))), 5), 6), limb.Bytes(of(7)))
	if b, _ := s.Get("limit/chan-0/atom"); !bytes.Equal(b, form) {
		t.Error(b)
	}
	if got, ok := transfer.GetLimit(s, "chan-0", "atom"); !ok || got != l {
		t.Error(got, ok)
	}
	short := wire.B(wire.N(wire.N(wire.B(nil, make([]byte, 31)), 5), 6), limb.Bytes(of(7)))
	shortUsed := wire.B(wire.N(wire.N(wire.B(nil, limb.Bytes(of(1))), 5), 6), make([]byte, 33))
	for i, b := range [][]byte{nil, form[1:], form[:len(form)-1], append(bytes.Clone(form), 0), short, shortUsed} {
		s.Set("limit/chan-0/atom", b)
		if got, ok := transfer.GetLimit(s, "chan-0", "atom"); ok || got != (transfer.Limit{}) {
			t.Error(i, got)
		}
	}
	if _, ok := transfer.GetLimit(s, "chan-1", "atom"); ok {
		t.Error("a limit that there isn't")
	}
	before := s.Root()
	transfer.SetLimit(s, strings.Repeat("x", 200), "atom", l)
	if !bytes.Equal(before, s.Root()) {
		t.Error("a key that is too long")
	}
	if _, ok := transfer.GetLimit(s, strings.Repeat("x", 200), "atom"); ok {
		t.Error("a key that is too long")
	}
}

func TestSendHolds(t *testing.T) {
	s := ready()
	p, e := transfer.Send(s, "chan-0", "ann", "atom", of(5), "bob", 9, 90)
	data := transfer.Bytes(transfer.Data{"atom", "ann", "bob", of(5)})
	if e != api.OK || !reflect.DeepEqual(p, api.Packet{Src: "chan-0", Dst: "chan-7", Seq: 1, Data: data, Height: 9, Time: 90}) {
		t.Error(p, e)
	}
	if transfer.Escrow("chan-0") != "escrow.chan-0" || bank.Bal(s, "escrow.chan-0", "atom") != of(5) || bank.Bal(s, "ann", "atom") != of(45) || bank.Supply(s, "atom") != of(50) {
		t.Error("what is held")
	}
	if b, _ := s.Get(packet.Commit("chan-0", 1)); !bytes.Equal(b, packet.Hash(p)) {
		t.Error("commit")
	}
	// what came through another channel is held, too
	bank.Mint(s, "ann", "transfer/chan-1/atom", of(3))
	if _, e := transfer.Send(s, "chan-0", "ann", "transfer/chan-1/atom", of(3), "bob", 0, 0); e != api.OK || bank.Bal(s, "escrow.chan-0", "transfer/chan-1/atom") != of(3) {
		t.Error(e)
	}
	bank.Mint(s, "ann", "transfer/chan-1/transfer/chan-0/atom", of(3))
	if _, e := transfer.Send(s, "chan-0", "ann", "transfer/chan-1/transfer/chan-0/atom", of(3), "bob", 0, 0); e != api.OK || bank.Supply(s, "transfer/chan-1/transfer/chan-0/atom") != of(3) {
		t.Error(e)
	}
}

func TestSendBurns(t *testing.T) {
	s := ready()
	voucher := "transfer/chan-0/transfer/chan-3/atom"
	bank.Mint(s, "bob", voucher, of(5))
	if p, e := transfer.Send(s, "chan-0", "bob", voucher, of(2), "ann", 0, 0); e != api.OK || !bytes.Equal(p.Data, transfer.Bytes(transfer.Data{voucher, "bob", "ann", of(2)})) {
		t.Error(p, e)
	}
	if bank.Supply(s, voucher) != of(3) || bank.Bal(s, "bob", voucher) != of(3) || bank.Bal(s, "escrow.chan-0", voucher) != (api.U{}) {
		t.Error("what is burnt")
	}
	refused(t, s, api.ErrFunds, func() api.Errno { _, e := transfer.Send(s, "chan-0", "bob", voucher, of(4), "ann", 0, 0); return e })
}

func TestSendRefuses(t *testing.T) {
	s := ready()
	long := "a" + strings.Repeat("b", 25) // escrow.a.. is no identifier
	chans.Put(s, long, chans.Chan{State: conn.Open, Port: "transfer", Conn: "conn-0"})
	chans.Put(s, "chan-2", chans.Chan{State: conn.Closed, Port: "transfer", Conn: "conn-0"})
	cases := []struct {
		id, from, denom string
		amt             api.U
		to              string
		height          uint64
		want            api.Errno
	}{
		{"chan-9", "", "", api.U{}, "", 1, api.ErrName},
		{"chan-9", "ann", "", api.U{}, "", 1, api.ErrDenom},
		{"chan-9", "ann", "atom", api.U{}, "", 1, api.ErrZero},
		{"chan-9", "ann", "atom", of(51), "", 1, api.ErrName},
		{"chan-9", "ann", "atom", of(51), "bob", 1, api.ErrChan},
		{"chan-1", "ann", "atom", of(51), "bob", 1, api.ErrPort},
		{"chan-0", "ann", "atom", of(51), "bob", 1, api.ErrFunds},
		{"chan-0", "ann", "transfer/chan-0/atom", of(1), "bob", 1, api.ErrFunds},
		{long, "ann", "atom", of(1), "bob", 1, api.ErrName},
		{"chan-0", "ann", "atom", of(1), "bob", 3, api.ErrLate},
		{"chan-2", "ann", "atom", of(1), "bob", 9, api.ErrState},
	}
	for i, c := range cases {
		refused(t, s, c.want, func() api.Errno {
			p, e := transfer.Send(s, c.id, c.from, c.denom, c.amt, c.to, c.height, 0)
			if !reflect.DeepEqual(p, api.Packet{}) {
				t.Error(i, p)
			}
			return e
		})
	}
}

func in(denom string, amt api.U, to string) api.Packet {
	return api.Packet{Src: "chan-7", Dst: "chan-0", Seq: 1, Data: transfer.Bytes(transfer.Data{denom, "zed", to, amt})}
}

func TestReceiveMints(t *testing.T) {
	s := ready()
	want(t, transfer.Receive(s, in("atom", of(5), "bob"), 1), api.OK)
	want(t, transfer.Receive(s, in("transfer/chan-3/atom", of(6), "bob"), 1), api.OK)
	want(t, transfer.Receive(s, in("transfer/chan-0/atom", of(7), "bob"), 1), api.OK) // the hop is the other chain's own
	for denom, n := range map[string]uint64{"transfer/chan-0/atom": 5, "transfer/chan-0/transfer/chan-3/atom": 6, "transfer/chan-0/transfer/chan-0/atom": 7} {
		if bank.Bal(s, "bob", denom) != of(n) || bank.Supply(s, denom) != of(n) {
			t.Error(denom)
		}
	}
	if bank.Supply(s, "atom") != of(50) {
		t.Error("atom")
	}
	refused(t, s, api.ErrOver, func() api.Errno { return transfer.Receive(s, in("atom", most, "cyd"), 1) })
	long := strings.Repeat("transfer/a/", 12) + strings.Repeat("t", 28)
	refused(t, s, api.ErrDenom, func() api.Errno { return transfer.Receive(s, in(long, of(1), "cyd"), 1) })
	wild := in("atom", of(1), "cyd")
	wild.Dst = "Chan"
	refused(t, s, api.ErrName, func() api.Errno { return transfer.Receive(s, wild, 1) })
}

func TestReceiveGivesBack(t *testing.T) {
	s := ready()
	bank.Send(s, "ann", "escrow.chan-0", "atom", of(5))
	want(t, transfer.Receive(s, in("transfer/chan-7/atom", of(2), "cyd"), 1), api.OK)
	if bank.Bal(s, "cyd", "atom") != of(2) || bank.Bal(s, "escrow.chan-0", "atom") != of(3) || bank.Supply(s, "atom") != of(50) {
		t.Error("what is given back")
	}
	refused(t, s, api.ErrFunds, func() api.Errno { return transfer.Receive(s, in("transfer/chan-7/atom", of(4), "cyd"), 1) })
	refused(t, s, api.ErrFunds, func() api.Errno {
		return transfer.Receive(s, in("transfer/chan-7/transfer/chan-3/atom", of(1), "cyd"), 1)
	})
	want(t, transfer.Receive(s, in("transfer/chan-7/atom", of(3), "escrow.chan-0"), 1), api.OK) // to the escrow itself: nothing moves
	if bank.Bal(s, "escrow.chan-0", "atom") != of(3) {
		t.Error("escrow")
	}
}

func TestReceiveUnderLimits(t *testing.T) {
	s := ready()
	denom := "transfer/chan-0/atom"
	transfer.SetLimit(s, "chan-0", denom, transfer.Limit{of(10), 5, 100, of(0)})
	recv := func(amt, self uint64) func() api.Errno {
		return func() api.Errno { return transfer.Receive(s, in("atom", of(amt), "bob"), self) }
	}
	used := func(start, n uint64) {
		t.Helper()
		if l, _ := transfer.GetLimit(s, "chan-0", denom); l != (transfer.Limit{of(10), 5, start, of(n)}) {
			t.Error(l)
		}
	}
	want(t, recv(4, 100)(), api.OK)
	want(t, recv(4, 104)(), api.OK)
	used(100, 8)
	refused(t, s, api.ErrQuota, recv(4, 104))
	want(t, recv(2, 104)(), api.OK) // just the quota
	refused(t, s, api.ErrQuota, recv(1, 104))
	refused(t, s, api.ErrQuota, recv(11, 105)) // neither is the new window kept
	used(100, 10)
	want(t, recv(10, 105)(), api.OK)
	used(105, 10)
	want(t, recv(1, 104)(), api.OK) // ahead of the start: a new window
	used(104, 1)
	want(t, recv(1, 1<<64-1)(), api.OK)
	used(1<<64-1, 1)
	transfer.SetLimit(s, "chan-0", denom, transfer.Limit{Quota: of(10), Window: 5, Start: 9})
	want(t, recv(6, 9)(), api.OK)
	refused(t, s, api.ErrQuota, recv(6, 9)) // at the start itself the window goes on
	transfer.SetLimit(s, "chan-0", denom, transfer.Limit{Quota: of(10), Window: 1<<64 - 1, Start: 9, Used: of(10)})
	refused(t, s, api.ErrQuota, recv(1, 1<<64-1))
	want(t, recv(1, 5)(), api.OK) // ahead of the start, however long the window
	// an error behind the limit leaves the limit as it was
	bank.Mint(s, "rich", denom, api.U{1<<64 - 1 - 100, 1<<64 - 1, 1<<64 - 1, 1<<64 - 1})
	transfer.SetLimit(s, "chan-0", denom, transfer.Limit{most, 5, 1, of(3)})
	refused(t, s, api.ErrOver, recv(200, 50))
	transfer.SetLimit(s, "chan-0", denom, transfer.Limit{most, 5, 1, most})
	refused(t, s, api.ErrQuota, recv(1, 2)) // 2^256
	transfer.SetLimit(s, "chan-0", denom, transfer.Limit{of(10), 0, 7, of(10)})
	want(t, recv(10, 7)(), api.OK) // a window of nothing is new each time
	want(t, recv(10, 7)(), api.OK)
	transfer.SetLimit(s, "chan-0", denom, transfer.Limit{of(10), 5, 7, of(20)})
	refused(t, s, api.ErrQuota, recv(1, 8))
	s.Set("limit/chan-0/"+denom, []byte{1})
	want(t, recv(30, 8)(), api.OK) // another form is no limit
	// what comes back has a limit by its name here
	bank.Send(s, "ann", "escrow.chan-0", "atom", of(9))
	transfer.SetLimit(s, "chan-0", "atom", transfer.Limit{of(3), 5, 7, of(0)})
	refused(t, s, api.ErrQuota, func() api.Errno { return transfer.Receive(s, in("transfer/chan-7/atom", of(4), "cyd"), 8) })
	want(t, transfer.Receive(s, in("transfer/chan-7/atom", of(3), "cyd"), 8), api.OK)
	if l, _ := transfer.GetLimit(s, "chan-0", "atom"); l.Used != of(3) {
		t.Error(l)
	}
	refused(t, s, api.ErrFunds, func() api.Errno {
		return transfer.Receive(s, in("transfer/chan-7/transfer/chan-0/atom", of(1), "cyd"), 8)
	})
}

func TestRefund(t *testing.T) {
	s := ready()
	bank.Mint(s, "zed", "transfer/chan-0/atom", of(5))
	bank.Mint(s, "zed", "atom", of(5))
	root := s.Root()
	for _, denom := range []string{"transfer/chan-0/atom", "atom"} {
		p, e := transfer.Send(s, "chan-0", "zed", denom, of(4), "bob", 0, 0)
		want(t, e, api.OK)
		want(t, transfer.Refund(s, p), api.OK)
		s.Del(packet.Commit("chan-0", p.Seq))
		s.Del(packet.Sent("chan-0", p.Seq))
	}
	s.Set(chans.Next("chan-0"), wire.N(nil, 1))
	if !bytes.Equal(root, s.Root()) {
		t.Error("what went out didn't come back")
	}
	p := api.Packet{Src: "chan-0", Dst: "chan-7", Data: transfer.Bytes(transfer.Data{"atom", "ann", "bob", of(1)})}
	refused(t, s, api.ErrFunds, func() api.Errno { return transfer.Refund(s, p) })
	p.Data = transfer.Bytes(transfer.Data{"transfer/chan-0/atom", "ann", "bob", most})
	refused(t, s, api.ErrOver, func() api.Errno { return transfer.Refund(s, p) })
	p.Data = transfer.Bytes(transfer.Data{"transfer/chan-7/atom", "ann", "bob", of(1)})
	refused(t, s, api.ErrFunds, func() api.Errno { return transfer.Refund(s, p) })
}

// Supplies without hops never change, and what is used of a limit is never above its quota.
func TestSuppliesStay(t *testing.T) {
	r := rand.New(rand.NewSource(12))
	s := ready()
	bank.Mint(s, "bob", "fuel", of(9))
	transfer.SetLimit(s, "chan-0", "transfer/chan-0/atom", transfer.Limit{of(10), 3, 0, of(0)})
	transfer.SetLimit(s, "chan-0", "atom", transfer.Limit{of(6), 4, 0, of(0)})
	denoms := []string{"atom", "fuel", "transfer/chan-0/atom", "transfer/chan-7/atom", "transfer/chan-7/fuel", "transfer/chan-3/atom"}
	who := []string{"ann", "bob", "cyd"}
	for i := range 2000 {
		d, n, a, b := denoms[r.Intn(6)], of(uint64(r.Intn(8))), who[r.Intn(3)], who[r.Intn(3)]
		switch r.Intn(3) {
		case 0:
			transfer.Send(s, "chan-0", a, d, n, b, 0, 0)
		case 1:
			transfer.Receive(s, in(d, n, b), uint64(i/20))
		case 2:
			transfer.Refund(s, api.Packet{Src: "chan-0", Dst: "chan-7", Data: transfer.Bytes(transfer.Data{d, a, b, n})})
		}
		for _, p := range s.Pairs("sup/") {
			if d := p.Key[4:]; name.Hops(d) == 0 && bank.Supply(s, d) != map[string]api.U{"atom": of(50), "fuel": of(9)}[d] {
				t.Fatal(d, bank.Supply(s, d))
			}
		}
		for _, d := range []string{"transfer/chan-0/atom", "atom"} {
			if l, ok := transfer.GetLimit(s, "chan-0", d); !ok || limb.Cmp(l.Used, l.Quota) > 0 {
				t.Fatal(l)
			}
		}
	}
}

func TestNilStoreEnds(t *testing.T) {
	transfer.SetLimit(nil, "chan-0", "atom", transfer.Limit{})
	transfer.GetLimit(nil, "chan-0", "atom")
	transfer.Send(nil, "chan-0", "ann", "atom", of(1), "bob", 0, 0)
	transfer.Receive(nil, in("atom", of(1), "bob"), 1)
	transfer.Refund(nil, in("atom", of(1), "bob"))
}
