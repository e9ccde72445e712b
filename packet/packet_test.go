package packet_test

import (
	"bytes"
	"math/rand"
	"reflect"
	"strings"
	"testing"

	"isthmus/api"
	"isthmus/chans"
	"isthmus/client"
	"isthmus/conn"
	"isthmus/merkle"
	"isthmus/packet"
	"isthmus/sha"
	"isthmus/store"
	"isthmus/wire"
)

func empty() *store.Store {
	s, _ := store.New(nil)
	return s
}

// follow: the client id of s trusts what of has now, as that of a height; its time is ten times that.
func follow(s *store.Store, id string, of *store.Store, height uint64) {
	s.Set("ibc/client/"+id, wire.F(wire.N(wire.N(wire.T(nil, "other"), height), 100000), false))
	s.Set("ibc/cons/"+id+"/"+client.Hex(height), wire.B(wire.B(wire.N(nil, 10*height), of.Root()), make([]byte, 32)))
}

func prove(of *store.Store, key string) api.Proof {
	p, _ := merkle.Prove(of.Pairs(""), key)
	return p
}

// joined: two stores with an open channel, a's chan-0 over conn-0 by client-0, b's chan-7 over conn-5 by client-3.
func joined(ordered bool) (*store.Store, *store.Store) {
	a, b := empty(), empty()
	a.Set(conn.Key("conn-0"), conn.Bytes(conn.Conn{State: conn.Open, Client: "client-0", CClient: "client-3", CConn: "conn-5"}))
	b.Set(conn.Key("conn-5"), conn.Bytes(conn.Conn{State: conn.Open, Client: "client-3", CClient: "client-0", CConn: "conn-0"}))
	chans.Put(a, "chan-0", chans.Chan{State: conn.Open, Ordered: ordered, Port: "p", CPort: "q", Conn: "conn-0", CChan: "chan-7", Version: "v"})
	chans.Put(b, "chan-7", chans.Chan{State: conn.Open, Ordered: ordered, Port: "q", CPort: "p", Conn: "conn-5", CChan: "chan-0", Version: "v"})
	for _, s := range []struct {
		s  *store.Store
		id string
	}{{a, "chan-0"}, {b, "chan-7"}} {
		for _, key := range []string{chans.Next(s.id), chans.Recv(s.id), chans.Acked(s.id)} {
			s.s.Set(key, wire.N(nil, 1))
		}
	}
	follow(a, "client-0", b, 1)
	follow(b, "client-3", a, 1)
	return a, b
}

func want(t *testing.T, got, e api.Errno) {
	t.Helper()
	if got != e {
		t.Error(got, "instead of", e)
	}
}

// refused: the error, and nothing changed.
func refused(t *testing.T, s *store.Store, e api.Errno, do func() api.Errno) {
	t.Helper()
	before := s.Root()
	if got := do(); got != e || !bytes.Equal(before, s.Root()) {
		t.Error(got, "instead of", e)
	}
}

func has(s *store.Store, key string) bool {
	_, ok := s.Get(key)
	return ok
}

func setState(s *store.Store, id string, state uint64) {
	c, _ := chans.Get(s, id)
	c.State = state
	chans.Put(s, id, c)
}

func TestBytesHashesKeys(t *testing.T) {
	p := api.Packet{Src: "chan-0", Dst: "chan-7", Seq: 258, Data: []byte{1, 2}, Height: 3, Time: 4}
	form := wire.N(wire.T(wire.T(nil, "chan-0"), "chan-7"), 258)
	form = wire.N(wire.N(wire.B(form, []byte{1, 2}), 3), 4)
	if !bytes.Equal(packet.Bytes(p), form) || !bytes.Equal(packet.Hash(p), sha.Tagged("packet", form)) || !bytes.Equal(packet.HashAck([]byte{5}), sha.Tagged("ack", []byte{5})) {
		t.Error("bytes or hashes")
	}
	keys := map[string]string{
		packet.Commit("chan-0", 258):      "ibc/commit/chan-0/0000000000000102",
		packet.Receipt("chan-0", 1):       "ibc/receipt/chan-0/0000000000000001",
		packet.AckKey("x", 1<<64-1):       "ibc/ack/x/ffffffffffffffff",
		packet.Sent("chan-0", 0xabc):      "ibc/sent/chan-0/0000000000000abc",
		packet.Told("chan-0", 0):          "ibc/told/chan-0/0000000000000000",
		packet.Told("", 0x10000000000000): "ibc/told//0010000000000000",
	}
	for got, want := range keys {
		if got != want {
			t.Error(got)
		}
	}
	if got, e := packet.Parse(form); e != api.OK || !reflect.DeepEqual(got, p) {
		t.Error(got, e)
	}
	for i := range form {
		if got, e := packet.Parse(form[:i]); e != api.ErrData || !reflect.DeepEqual(got, api.Packet{}) {
			t.Error(i, e)
		}
	}
	if _, e := packet.Parse(append(form, 0)); e != api.ErrData {
		t.Error("a tail", e)
	}
	if _, e := packet.Parse([]byte{0, 1, 0, 0}); e != api.ErrData {
		t.Error("too long", e)
	}
}

func TestSend(t *testing.T) {
	a, _ := joined(false)
	room := bytes.Repeat([]byte{9}, 16)
	for seq := uint64(1); seq < 4; seq++ {
		p, e := packet.Send(a, "chan-0", room[:3], 50+seq, 60)
		want(t, e, api.OK)
		if !reflect.DeepEqual(p, api.Packet{Src: "chan-0", Dst: "chan-7", Seq: seq, Data: []byte{9, 9, 9}, Height: 50 + seq, Time: 60}) {
			t.Error(p)
		}
		if b, _ := a.Get(packet.Commit("chan-0", seq)); !bytes.Equal(b, packet.Hash(p)) {
			t.Error("commit")
		}
		if b, _ := a.Get(packet.Sent("chan-0", seq)); !bytes.Equal(b, packet.Bytes(p)) {
			t.Error("sent")
		}
		if b, _ := a.Get(chans.Next("chan-0")); !bytes.Equal(b, wire.N(nil, seq+1)) {
			t.Error("next", b)
		}
		_ = append(p.Data, 1, 2)
		p.Data[0] = 0
	}
	if !bytes.Equal(room, bytes.Repeat([]byte{9}, 16)) {
		t.Error("the data were changed")
	}
}

func TestSendRefuses(t *testing.T) {
	// each step puts right one thing more: so the errors come in the chapter's order
	a := empty()
	long := make([]byte, api.MaxField)
	send := func(data []byte, height, time uint64) func() api.Errno {
		return func() api.Errno {
			p, e := packet.Send(a, "chan-0", data, height, time)
			if e != api.OK && !reflect.DeepEqual(p, api.Packet{}) {
				t.Error(p)
			}
			return e
		}
	}
	refused(t, a, api.ErrChan, send(long, 1, 1))
	for _, state := range []uint64{0, conn.Init, conn.Tried, conn.Closed, 5} {
		chans.Put(a, "chan-0", chans.Chan{State: state, Conn: "conn-0", CChan: "chan-7"})
		a.Set(conn.Key("conn-0"), conn.Bytes(conn.Conn{State: conn.Init, Client: "client-0"}))
		refused(t, a, api.ErrState, send(long, 1, 1))
	}
	a.Del(conn.Key("conn-0"))
	chans.Put(a, "chan-0", chans.Chan{State: conn.Open, Conn: "conn-0", CChan: "chan-7"})
	refused(t, a, api.ErrState, send(long, 1, 1))
	a.Set(conn.Key("conn-0"), conn.Bytes(conn.Conn{State: conn.Init, Client: "client-0"})) // its state isn't asked for
	refused(t, a, api.ErrClient, send(long, 1, 1))
	a.Set("ibc/client/client-0", wire.F(wire.N(wire.N(wire.T(nil, "other"), 5), 1), true))
	refused(t, a, api.ErrFrozen, send(long, 1, 1))
	a.Set("ibc/client/client-0", wire.F(wire.N(wire.N(wire.T(nil, "other"), 5), 1), false))
	refused(t, a, api.ErrLong, send(long, 1, 1))
	rest := api.MaxField - len(packet.Bytes(api.Packet{Src: "chan-0", Dst: "chan-7"}))
	refused(t, a, api.ErrLong, send(long[:rest+1], 1, 1))
	refused(t, a, api.ErrLate, send(long[:rest], 5, 0))
	refused(t, a, api.ErrLate, send(long[:rest], 1, 0))
	want(t, send(long[:rest], 6, 1)(), api.OK) // no time is trusted there: it counts as 0
	if b, _ := a.Get(packet.Sent("chan-0", 0)); len(b) != api.MaxField {
		t.Error("the greatest packet", len(b))
	}
	a.Set("ibc/cons/client-0/"+client.Hex(5), wire.B(wire.B(wire.N(nil, 70), nil), nil))
	refused(t, a, api.ErrLate, send(nil, 0, 70))
	refused(t, a, api.ErrLate, send(nil, 6, 1))
	refused(t, a, api.ErrLate, send(nil, 5, 71))
	want(t, send(nil, 6, 71)(), api.OK)
	want(t, send(nil, 0, 0)(), api.OK)
}

// A number that isn't there counts as 0, one in more bytes as what is taken of it; it wraps round.
func TestNumbersOfOtherForms(t *testing.T) {
	for _, c := range []struct {
		kept []byte
		seq  uint64
	}{{[]byte{1}, 0}, {append(wire.N(nil, 9), 1), 9}, {wire.N(nil, 1<<64-1), 1<<64 - 1}} {
		a, _ := joined(true)
		a.Set(chans.Next("chan-0"), c.kept)
		p, e := packet.Send(a, "chan-0", nil, 0, 0)
		if b, _ := a.Get(chans.Next("chan-0")); e != api.OK || p.Seq != c.seq || !bytes.Equal(b, wire.N(nil, c.seq+1)) {
			t.Error(p.Seq, e)
		}
	}
	a, b := joined(true)
	a.Del(chans.Next("chan-0"))
	p, _ := packet.Send(a, "chan-0", nil, 0, 0)
	b.Del(chans.Recv("chan-7"))
	follow(b, "client-3", a, 2)
	want(t, packet.Recv(b, p, 2, prove(a, packet.Commit("chan-0", 0)), 1, 1), api.OK)
	packet.Write(b, p, []byte{1})
	a.Set(chans.Acked("chan-0"), []byte{1, 2})
	follow(a, "client-0", b, 2)
	want(t, packet.Ack(a, p, []byte{1}, 2, prove(b, packet.AckKey("chan-7", 0)), 1), api.OK)
	if n, _ := a.Get(chans.Acked("chan-0")); !bytes.Equal(n, wire.N(nil, 1)) {
		t.Error(n)
	}
}

// The end's error, for each call that asks for it.
func TestEndsError(t *testing.T) {
	calls := map[string]func(s *store.Store, mine, theirs string) api.Errno{
		"Recv": func(s *store.Store, mine, theirs string) api.Errno {
			return packet.Recv(s, api.Packet{Src: theirs, Dst: mine}, 1, api.Proof{}, 1, 1)
		},
		"Ack": func(s *store.Store, mine, theirs string) api.Errno {
			return packet.Ack(s, api.Packet{Src: mine, Dst: theirs}, nil, 1, api.Proof{}, 1)
		},
		"Timeout": func(s *store.Store, mine, theirs string) api.Errno {
			return packet.Timeout(s, api.Packet{Src: mine, Dst: theirs}, 0, 1, api.Proof{}, 1)
		},
	}
	for name, call := range calls {
		a, _ := joined(false)
		a.Del(conn.Key("conn-5"))
		refused(t, a, api.ErrChan, func() api.Errno { return call(a, "chan-1", "chan-7") })
		refused(t, a, api.ErrChan, func() api.Errno { return call(a, "", "chan-7") })
		refused(t, a, api.ErrPacket, func() api.Errno { return call(a, "chan-0", "chan-8") })
		for _, state := range []uint64{0, conn.Init, conn.Tried, 5, 1 << 40} {
			setState(a, "chan-0", state)
			refused(t, a, api.ErrState, func() api.Errno { return call(a, "chan-0", "chan-8") })
		}
		setState(a, "chan-0", conn.Closed)
		refused(t, a, api.ErrPacket, func() api.Errno { return call(a, "chan-0", "chan-8") })
		closed := api.ErrState
		if name == "Timeout" {
			closed = api.ErrPacket // it goes on, and nothing was sent
		}
		refused(t, a, closed, func() api.Errno { return call(a, "chan-0", "chan-7") })
		a.Del(conn.Key("conn-0"))
		refused(t, a, api.ErrState, func() api.Errno { return call(a, "chan-0", "chan-8") })
	}
}

func TestRecvUnordered(t *testing.T) {
	a, b := joined(false)
	p, _ := packet.Send(a, "chan-0", []byte{1}, 50, 500)
	q, _ := packet.Send(a, "chan-0", []byte{2}, 0, 0)
	follow(b, "client-3", a, 2)
	proof := prove(a, packet.Commit("chan-0", 1))
	other := p
	other.Data = []byte{3}
	refused(t, b, api.ErrLate, func() api.Errno { return packet.Recv(b, other, 9, proof, 50, 1) })
	refused(t, b, api.ErrLate, func() api.Errno { return packet.Recv(b, p, 2, proof, 1, 500) })
	refused(t, b, api.ErrLate, func() api.Errno { return packet.Recv(b, p, 2, proof, 51, 501) })
	refused(t, b, api.ErrCons, func() api.Errno { return packet.Recv(b, p, 9, proof, 49, 499) })
	refused(t, b, api.ErrProof, func() api.Errno { return packet.Recv(b, other, 2, proof, 1, 1) })
	refused(t, b, api.ErrProof, func() api.Errno { return packet.Recv(b, q, 2, proof, 1, 1) })
	want(t, packet.Recv(b, q, 2, prove(a, packet.Commit("chan-0", 2)), 1<<60, 1000), api.OK) // the second one first; never late
	want(t, packet.Recv(b, p, 2, proof, 49, 499), api.OK)
	if r, _ := b.Get("ibc/receipt/chan-7/0000000000000001"); !bytes.Equal(r, []byte{1}) {
		t.Error(r)
	}
	refused(t, b, api.ErrDone, func() api.Errno { return packet.Recv(b, p, 2, proof, 50, 500) }) // ahead of ErrLate
	if n, _ := b.Get(chans.Recv("chan-7")); !bytes.Equal(n, wire.N(nil, 1)) {
		t.Error("an unordered channel's number", n)
	}
}

func TestRecvOrdered(t *testing.T) {
	a, b := joined(true)
	var l []api.Packet
	for range 3 {
		p, _ := packet.Send(a, "chan-0", nil, 50, 0)
		l = append(l, p)
	}
	follow(b, "client-3", a, 2)
	recv := func(i int, self uint64) func() api.Errno {
		return func() api.Errno { return packet.Recv(b, l[i], 2, prove(a, packet.Commit("chan-0", l[i].Seq)), self, 1) }
	}
	refused(t, b, api.ErrTurn, recv(2, 90))
	refused(t, b, api.ErrLate, recv(0, 50))
	want(t, recv(0, 1)(), api.OK)
	refused(t, b, api.ErrDone, recv(0, 90))
	refused(t, b, api.ErrTurn, recv(2, 1))
	want(t, recv(1, 1)(), api.OK)
	want(t, recv(2, 1)(), api.OK)
	if n, _ := b.Get(chans.Recv("chan-7")); !bytes.Equal(n, wire.N(nil, 4)) || has(b, packet.Receipt("chan-7", 1)) {
		t.Error(n)
	}
}

func TestWrite(t *testing.T) {
	s := empty()
	p := api.Packet{Src: "chan-0", Dst: "chan-7", Seq: 3}
	packet.Write(s, p, []byte{1, 2})
	if b, _ := s.Get("ibc/ack/chan-7/0000000000000003"); !bytes.Equal(b, packet.HashAck([]byte{1, 2})) {
		t.Error(b)
	}
	if b, _ := s.Get("ibc/told/chan-7/0000000000000003"); !bytes.Equal(b, []byte{1, 2}) {
		t.Error(b)
	}
	if len(s.Pairs("")) != 2 {
		t.Error("more is kept")
	}
	packet.Write(s, api.Packet{Dst: "x"}, make([]byte, api.MaxField+1))
	if !has(s, packet.AckKey("x", 0)) || has(s, packet.Told("x", 0)) {
		t.Error("an answer that is too long")
	}
	packet.Write(s, api.Packet{Dst: strings.Repeat("x", 300)}, nil)
	if len(s.Pairs("")) != 3 {
		t.Error("a key that is too long")
	}
}

func TestAck(t *testing.T) {
	for _, ordered := range []bool{false, true} {
		a, b := joined(ordered)
		p, _ := packet.Send(a, "chan-0", []byte{1}, 0, 0)
		q, _ := packet.Send(a, "chan-0", []byte{2}, 0, 0)
		packet.Write(b, p, []byte("yes"))
		packet.Write(b, q, []byte("no"))
		follow(a, "client-0", b, 2)
		ackP, ackQ := prove(b, packet.AckKey("chan-7", 1)), prove(b, packet.AckKey("chan-7", 2))
		other := p
		other.Time = 7
		never := p
		never.Seq = 9
		refused(t, a, api.ErrPacket, func() api.Errno { return packet.Ack(a, other, []byte("yes"), 2, ackP, 3) })
		refused(t, a, api.ErrPacket, func() api.Errno { return packet.Ack(a, never, []byte("yes"), 2, ackP, 3) })
		refused(t, a, api.ErrProof, func() api.Errno { return packet.Ack(a, p, []byte("no"), 2, ackP, 3) })
		refused(t, a, api.ErrProof, func() api.Errno { return packet.Ack(a, p, []byte("no"), 2, ackQ, 3) })
		refused(t, a, api.ErrCons, func() api.Errno { return packet.Ack(a, p, []byte("yes"), 3, ackP, 3) })
		if ordered {
			refused(t, a, api.ErrTurn, func() api.Errno { return packet.Ack(a, q, []byte("no"), 9, ackQ, 3) })
		}
		setState(a, "chan-0", conn.Closed)
		refused(t, a, api.ErrState, func() api.Errno { return packet.Ack(a, other, []byte("yes"), 2, ackP, 3) })
		setState(a, "chan-0", conn.Open)
		want(t, packet.Ack(a, p, []byte("yes"), 2, ackP, 3), api.OK)
		if has(a, packet.Commit("chan-0", 1)) || has(a, packet.Sent("chan-0", 1)) || !has(a, packet.Commit("chan-0", 2)) || !has(a, packet.Sent("chan-0", 2)) {
			t.Error("what is kept behind an Ack")
		}
		number := uint64(1)
		if ordered {
			number = 2
		}
		if n, _ := a.Get(chans.Acked("chan-0")); !bytes.Equal(n, wire.N(nil, number)) {
			t.Error(n)
		}
		refused(t, a, api.ErrPacket, func() api.Errno { return packet.Ack(a, p, []byte("yes"), 2, ackP, 3) })
		want(t, packet.Ack(a, q, []byte("no"), 2, ackQ, 3), api.OK)
	}
}

func TestTimeoutUnordered(t *testing.T) {
	a, b := joined(false)
	p, _ := packet.Send(a, "chan-0", []byte{1}, 5, 0)
	q, _ := packet.Send(a, "chan-0", []byte{1}, 0, 70)
	r, _ := packet.Send(a, "chan-0", []byte{1}, 0, 0)
	for h := uint64(3); h < 8; h++ {
		follow(a, "client-0", b, h)
	}
	gone := prove(b, packet.Receipt("chan-7", 1))
	other := p
	other.Seq = 7
	refused(t, a, api.ErrPacket, func() api.Errno { return packet.Timeout(a, other, 0, 99, gone, 8) })
	refused(t, a, api.ErrCons, func() api.Errno { return packet.Timeout(a, p, 0, 99, gone, 8) })
	refused(t, a, api.ErrCons, func() api.Errno { return packet.Timeout(a, r, 0, 99, gone, 8) }) // ahead of ErrEarly
	refused(t, a, api.ErrEarly, func() api.Errno { return packet.Timeout(a, p, 0, 4, api.Proof{}, 8) })
	refused(t, a, api.ErrEarly, func() api.Errno { return packet.Timeout(a, q, 0, 6, api.Proof{}, 8) })
	refused(t, a, api.ErrEarly, func() api.Errno { return packet.Timeout(a, r, 0, 7, gone, 8) })
	refused(t, a, api.ErrProof, func() api.Errno { return packet.Timeout(a, p, 0, 5, api.Proof{}, 8) })
	a.Set("ibc/client/client-0", wire.F(wire.N(wire.N(wire.T(nil, "other"), 7), 1), true))
	refused(t, a, api.ErrFrozen, func() api.Errno { return packet.Timeout(a, p, 0, 5, gone, 8) })
	refused(t, a, api.ErrEarly, func() api.Errno { return packet.Timeout(a, p, 0, 4, gone, 8) }) // ahead of the client's own error
	a.Set("ibc/client/client-0", wire.F(wire.N(wire.N(wire.T(nil, "other"), 7), 1000), false))
	want(t, packet.Timeout(a, p, 99, 5, gone, 8), api.OK) // next doesn't count
	if has(a, packet.Commit("chan-0", 1)) || has(a, packet.Sent("chan-0", 1)) || !has(a, packet.Commit("chan-0", 2)) {
		t.Error("what is kept behind a Timeout")
	}
	refused(t, a, api.ErrPacket, func() api.Errno { return packet.Timeout(a, p, 0, 5, gone, 8) })
	if c, _ := chans.Get(a, "chan-0"); c.State != conn.Open {
		t.Error("an unordered channel stays open")
	}
	// one that was received isn't too late
	b.Set(packet.Receipt("chan-7", 2), []byte{1})
	follow(a, "client-0", b, 8)
	refused(t, a, api.ErrProof, func() api.Errno { return packet.Timeout(a, q, 0, 8, prove(b, packet.Receipt("chan-7", 2)), 8) })
	setState(a, "chan-0", conn.Closed)
	want(t, packet.Timeout(a, q, 0, 7, prove(unreceived(b), packet.Receipt("chan-7", 2)), 8), api.OK) // a closed channel's packets come to their end
}

// unreceived: b as it was ahead of its last receipt.
func unreceived(b *store.Store) *store.Store {
	c := b.Branch()
	c.Del(packet.Receipt("chan-7", 2))
	return c
}

func TestTimeoutOrdered(t *testing.T) {
	a, b := joined(true)
	p, _ := packet.Send(a, "chan-0", []byte{1}, 5, 0)
	q, _ := packet.Send(a, "chan-0", []byte{1}, 5, 0)
	b.Set(chans.Recv("chan-7"), wire.N(nil, 2))
	follow(a, "client-0", b, 5)
	proof := prove(b, chans.Recv("chan-7"))
	refused(t, a, api.ErrDone, func() api.Errno { return packet.Timeout(a, p, 2, 5, api.Proof{}, 8) })
	refused(t, a, api.ErrProof, func() api.Errno { return packet.Timeout(a, p, 1, 5, proof, 8) })
	refused(t, a, api.ErrProof, func() api.Errno { return packet.Timeout(a, q, 1, 5, proof, 8) })
	refused(t, a, api.ErrProof, func() api.Errno { return packet.Timeout(a, q, 2, 5, prove(b, packet.Receipt("chan-7", 2)), 8) })
	want(t, packet.Timeout(a, q, 2, 5, proof, 8), api.OK)
	if c, _ := chans.Get(a, "chan-0"); c != (chans.Chan{State: conn.Closed, Ordered: true, Port: "p", CPort: "q", Conn: "conn-0", CChan: "chan-7", Version: "v"}) {
		t.Error(c)
	}
	if has(a, packet.Commit("chan-0", 2)) || has(a, packet.Sent("chan-0", 2)) || !has(a, packet.Commit("chan-0", 1)) {
		t.Error("what is kept behind a Timeout")
	}
	b.Set(chans.Recv("chan-7"), wire.N(nil, 1))
	follow(a, "client-0", b, 6)
	want(t, packet.Timeout(a, p, 1, 6, prove(b, chans.Recv("chan-7")), 8), api.OK) // of the channel that is closed by now
	if c, _ := chans.Get(a, "chan-0"); c.State != conn.Closed {
		t.Error(c)
	}
}

// Whatever is brought in whatever order: each packet comes in once at most, those of an ordered channel in order, and ends once at most.
func TestOnce(t *testing.T) {
	for round := range int64(8) {
		ordered := round%2 == 1
		r := rand.New(rand.NewSource(11 + round))
		a, b := joined(ordered)
		var sent []api.Packet
		received, ended := map[uint64]int{}, map[uint64]int{}
		last, height := uint64(0), uint64(1)
		oldA, oldB := a, b // as the clients know them
		for range 300 {
			switch r.Intn(5) {
			case 0:
				late := height + uint64(1+r.Intn(40))
				if p, e := packet.Send(a, "chan-0", []byte{byte(r.Intn(256))}, late, 0); e == api.OK {
					sent = append(sent, p)
				}
			case 1:
				height++
				oldA, _ = store.New(a.Pairs(""))
				oldB, _ = store.New(b.Pairs(""))
				follow(a, "client-0", oldB, height)
				follow(b, "client-3", oldA, height)
			}
			if len(sent) == 0 {
				continue
			}
			p := sent[max(0, len(sent)-1-r.Intn(8))]
			if ordered && r.Intn(2) == 0 && last < uint64(len(sent)) {
				p = sent[last]
			}
			switch r.Intn(3) {
			case 0:
				if packet.Recv(b, p, height, prove(oldA, packet.Commit("chan-0", p.Seq)), height, height) == api.OK {
					received[p.Seq]++
					if ordered && p.Seq != last+1 {
						t.Error("out of order", p.Seq)
					}
					last = p.Seq
					packet.Write(b, p, p.Data)
				}
			case 1:
				if packet.Ack(a, p, p.Data, height, prove(oldB, packet.AckKey("chan-7", p.Seq)), height) == api.OK {
					ended[p.Seq]++
				}
			case 2:
				n, _ := oldB.Get(chans.Recv("chan-7"))
				key := packet.Receipt("chan-7", p.Seq)
				if ordered {
					key = chans.Recv("chan-7")
				}
				if r.Intn(10) == 0 && packet.Timeout(a, p, wire.Open(n).N(), height, prove(oldB, key), height) == api.OK {
					ended[p.Seq]++
					if received[p.Seq] > 0 {
						t.Error("received, and too late", p.Seq)
					}
				}
			}
		}
		for seq, n := range received {
			if n > 1 || ended[seq] > 1 {
				t.Error(seq, n, ended[seq])
			}
		}
		if len(received) < 2 || len(ended) < 1 {
			t.Error("little happened", round, len(received), len(ended))
		}
	}
}

func TestNilStoreEnds(t *testing.T) {
	packet.Send(nil, "chan-0", nil, 1, 1)
	packet.Recv(nil, api.Packet{}, 1, api.Proof{}, 1, 1)
	packet.Write(nil, api.Packet{}, nil)
	packet.Ack(nil, api.Packet{}, nil, 1, api.Proof{}, 1)
	packet.Timeout(nil, api.Packet{}, 1, 1, api.Proof{}, 1)
}
