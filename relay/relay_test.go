package relay_test

import (
	"bytes"
	"math/rand"
	"slices"
	"testing"

	"isthmus/api"
	"isthmus/chain"
	"isthmus/chans"
	"isthmus/conn"
	"isthmus/disk"
	"isthmus/limb"
	"isthmus/packet"
	"isthmus/relay"
	"isthmus/rig"
	"isthmus/store"
	"isthmus/tx"
	"isthmus/wire"
)

const all = 1 << 30

// ends: the states of two chains with open channels, chan-0 to chan-7 unordered, chan-1 to chan-8 ordered.
func ends() (*store.Store, *store.Store) {
	a, _ := store.New(nil)
	b, _ := store.New(nil)
	put(a, "chan-0", conn.Open, false, "chan-7")
	put(a, "chan-1", conn.Open, true, "chan-8")
	put(b, "chan-7", conn.Open, false, "chan-0")
	put(b, "chan-8", conn.Open, true, "chan-1")
	return a, b
}

func put(s *store.Store, id string, state uint64, ordered bool, cchan string) {
	chans.Put(s, id, chans.Chan{State: state, Ordered: ordered, CChan: cchan})
	s.Set(chans.Recv(id), wire.N(nil, 1))
}

func send(s *store.Store, src, dst string, seq, height, time uint64) api.Packet {
	p := api.Packet{Src: src, Dst: dst, Seq: seq, Data: []byte{byte(seq)}, Height: height, Time: time}
	s.Set(packet.Sent(src, seq), packet.Bytes(p))
	s.Set(packet.Commit(src, seq), packet.Hash(p))
	return p
}

// begun: a chain with that state, at height 3 and time 30.
func begun(t *testing.T, s *store.Store, name string) *chain.Chain {
	t.Helper()
	set := []api.Val{{Name: "a", Power: 1}}
	c, e := chain.Start(disk.New(), api.Genesis{Chain: name, Time: 10, Vals: set, Next: set, Pairs: s.Pairs("")})
	if e != api.OK {
		t.Fatal(e)
	}
	c.Block(20, nil, set)
	c.Block(30, nil, set)
	return c
}

func proof(c *chain.Chain, key string) api.Proof {
	p, _ := c.Prove(key)
	return p
}

func recv(c *chain.Chain, p api.Packet) api.Msg {
	return api.Msg{Kind: api.Recv, Packet: p, Height: 3, Proof: proof(c, packet.Commit(p.Src, p.Seq))}
}

func ack(c *chain.Chain, p api.Packet, ack []byte) api.Msg {
	return api.Msg{Kind: api.Ack, Packet: p, Ack: ack, Height: 3, Proof: proof(c, packet.AckKey(p.Dst, p.Seq))}
}

func timeout(c *chain.Chain, p api.Packet, next uint64, key string) api.Msg {
	return api.Msg{Kind: api.Timeout, Packet: p, Next: next, Height: 3, Proof: proof(c, key)}
}

func same(a, b []api.Msg) bool {
	return slices.EqualFunc(a, b, func(x, y api.Msg) bool {
		one, e := tx.Encode(api.Tx{Msgs: []api.Msg{x}})
		other, e2 := tx.Encode(api.Tx{Msgs: []api.Msg{y}})
		return e == api.OK && e2 == api.OK && bytes.Equal(one, other)
	})
}

func check(t *testing.T, what string, got []api.Msg, want ...api.Msg) {
	t.Helper()
	if !same(got, want) {
		t.Errorf("%s: %v instead of %v", what, got, want)
	}
}

func TestOfNothing(t *testing.T) {
	a, b := ends()
	one, two := begun(t, a, "one"), begun(t, b, "two")
	check(t, "no chain", relay.Work(nil, two, 1, all))
	check(t, "no chain", relay.Work(one, nil, 1, all))
	check(t, "nothing to bring", relay.Work(one, two, 1, all))
	relay.Work(new(chain.Chain), new(chain.Chain), 1, all) // of what no maker has made the calls end
}

func TestRecv(t *testing.T) {
	ready := func(turn func(a, b *store.Store)) (*chain.Chain, *chain.Chain) {
		a, b := ends()
		send(a, "chan-0", "chan-7", 5, 9, 99)
		turn(a, b)
		return begun(t, a, "one"), begun(t, b, "two")
	}
	p := api.Packet{Src: "chan-0", Dst: "chan-7", Seq: 5, Data: []byte{5}, Height: 9, Time: 99}
	cases := []struct {
		what string
		turn func(a, b *store.Store)
		now  uint64
		come bool
	}{
		{"itself", func(a, b *store.Store) {}, 98, true},
		{"no channel", func(a, b *store.Store) { b.Del(chans.Key("chan-7")) }, 98, false},
		{"tried", func(a, b *store.Store) { put(b, "chan-7", conn.Tried, false, "chan-0") }, 98, false},
		{"closed", func(a, b *store.Store) { put(b, "chan-7", conn.Closed, false, "chan-0") }, 98, false},
		{"another end", func(a, b *store.Store) { put(b, "chan-7", conn.Open, false, "chan-1") }, 98, false},
		{"received", func(a, b *store.Store) { b.Set(packet.Receipt("chan-7", 5), []byte{1}) }, 98, false},
		{"another one received", func(a, b *store.Store) { b.Set(packet.Receipt("chan-7", 4), []byte{1}) }, 98, true},
		{"late by its time", func(a, b *store.Store) {}, 99, false},
		{"late by its height", func(a, b *store.Store) {
			send(a, "chan-0", "chan-7", 5, 4, 99)
		}, 1, false},
		{"its own end is gone", func(a, b *store.Store) { a.Del(chans.Key("chan-0")) }, 98, true},
		{"no packet", func(a, b *store.Store) { a.Set(packet.Sent("chan-0", 5), []byte{1}) }, 98, false},
		{"ordered, its turn", func(a, b *store.Store) {
			put(b, "chan-7", conn.Open, true, "chan-0")
			b.Set(chans.Recv("chan-7"), wire.N(nil, 5))
		}, 98, true},
		{"ordered, received", func(a, b *store.Store) {
			put(b, "chan-7", conn.Open, true, "chan-0")
			b.Set(chans.Recv("chan-7"), wire.N(nil, 6))
		}, 98, false},
		{"ordered, not its turn", func(a, b *store.Store) {
			put(b, "chan-7", conn.Open, true, "chan-0")
			b.Set(chans.Recv("chan-7"), wire.N(nil, 4))
		}, 98, false},
	}
	for _, c := range cases {
		one, two := ready(c.turn)
		var want []api.Msg
		if c.come {
			want = []api.Msg{recv(one, p)}
		}
		check(t, c.what, relay.Work(one, two, c.now, all), want...)
	}
	// just not late: height 4 is that of the block that it comes in with at the earliest
	a, b := ends()
	q := send(a, "chan-0", "chan-7", 1, 5, 0)
	one, two := begun(t, a, "one"), begun(t, b, "two")
	check(t, "just not late", relay.Work(one, two, 1<<63, all), recv(one, q))
}

func TestAckAndTimeout(t *testing.T) {
	fine := []byte("answer")
	p := api.Packet{Src: "chan-7", Dst: "chan-0", Seq: 5, Data: []byte{5}, Height: 3, Time: 99}
	cases := []struct {
		what string
		turn func(a, b *store.Store) // a is from, b is to, which sent it
		want func(one *chain.Chain) []api.Msg
	}{
		{"too late", func(a, b *store.Store) {}, func(one *chain.Chain) []api.Msg {
			return []api.Msg{timeout(one, p, 1, packet.Receipt("chan-0", 5))}
		}},
		{"told", func(a, b *store.Store) { a.Set(packet.Told("chan-0", 5), fine) }, func(one *chain.Chain) []api.Msg {
			return []api.Msg{ack(one, p, fine)}
		}},
		{"told nothing", func(a, b *store.Store) { a.Set(packet.Told("chan-0", 5), nil) }, func(one *chain.Chain) []api.Msg {
			return []api.Msg{ack(one, p, nil)}
		}},
		{"told, and received", func(a, b *store.Store) {
			a.Set(packet.Told("chan-0", 5), fine)
			a.Set(packet.Receipt("chan-0", 5), []byte{1})
		}, func(one *chain.Chain) []api.Msg { return []api.Msg{ack(one, p, fine)} }},
		{"received, not told", func(a, b *store.Store) { a.Set(packet.Receipt("chan-0", 5), []byte{1}) }, nil},
		{"told and received, but closed", func(a, b *store.Store) {
			a.Set(packet.Told("chan-0", 5), fine)
			a.Set(packet.Receipt("chan-0", 5), []byte{1})
			put(b, "chan-7", conn.Closed, false, "chan-0")
		}, nil},
		{"told, not received, closed", func(a, b *store.Store) {
			a.Set(packet.Told("chan-0", 5), fine)
			put(b, "chan-7", conn.Closed, false, "chan-0")
		}, func(one *chain.Chain) []api.Msg { return []api.Msg{timeout(one, p, 1, packet.Receipt("chan-0", 5))} }},
		{"its other end is closed", func(a, b *store.Store) { put(a, "chan-0", conn.Closed, false, "x") }, func(one *chain.Chain) []api.Msg {
			return []api.Msg{timeout(one, p, 1, packet.Receipt("chan-0", 5))}
		}},
		{"its other end is gone", func(a, b *store.Store) { a.Del(chans.Key("chan-0")) }, nil},
		{"its own channel is gone", func(a, b *store.Store) { b.Del(chans.Key("chan-7")) }, nil},
		{"its own channel has another end", func(a, b *store.Store) { put(b, "chan-7", conn.Open, false, "chan-1") }, nil},
		{"no number there", func(a, b *store.Store) { a.Del(chans.Recv("chan-0")) }, func(one *chain.Chain) []api.Msg {
			return []api.Msg{timeout(one, p, 0, packet.Receipt("chan-0", 5))}
		}},
		{"ordered", func(a, b *store.Store) {
			put(a, "chan-0", conn.Open, true, "chan-7")
			put(b, "chan-7", conn.Open, true, "chan-0")
			a.Set(chans.Recv("chan-0"), wire.N(nil, 4))
		}, func(one *chain.Chain) []api.Msg { return []api.Msg{timeout(one, p, 4, chans.Recv("chan-0"))} }},
		{"ordered, just its turn", func(a, b *store.Store) {
			put(a, "chan-0", conn.Open, true, "chan-7")
			put(b, "chan-7", conn.Open, true, "chan-0")
			a.Set(chans.Recv("chan-0"), wire.N(nil, 5))
		}, func(one *chain.Chain) []api.Msg { return []api.Msg{timeout(one, p, 5, chans.Recv("chan-0"))} }},
		{"ordered, received", func(a, b *store.Store) {
			put(a, "chan-0", conn.Open, true, "chan-7")
			put(b, "chan-7", conn.Open, true, "chan-0")
			a.Set(chans.Recv("chan-0"), wire.N(nil, 6))
		}, nil},
		{"ordered, without a number", func(a, b *store.Store) {
			put(a, "chan-0", conn.Open, true, "chan-7")
			put(b, "chan-7", conn.Open, true, "chan-0")
			a.Del(chans.Recv("chan-0"))
		}, func(one *chain.Chain) []api.Msg { return []api.Msg{timeout(one, p, 0, chans.Recv("chan-0"))} }},
		{"not late", func(a, b *store.Store) { send(b, "chan-7", "chan-0", 5, 4, 31) }, nil},
		{"never late", func(a, b *store.Store) { send(b, "chan-7", "chan-0", 5, 0, 0) }, nil},
	}
	for _, c := range cases {
		a, b := ends()
		send(b, "chan-7", "chan-0", 5, 3, 99)
		c.turn(a, b)
		one, two := begun(t, a, "one"), begun(t, b, "two")
		var want []api.Msg
		if c.want != nil {
			want = c.want(one)
		}
		check(t, c.what, relay.Work(one, two, 1<<63, all), want...)
	}
	a, b := ends()
	q := send(b, "chan-7", "chan-0", 5, 0, 30)
	one, two := begun(t, a, "one"), begun(t, b, "two")
	check(t, "late by its time", relay.Work(one, two, 0, all), timeout(one, q, 1, packet.Receipt("chan-0", 5)))
}

// First those of from, then those of to, in the order of the keys; as many as are asked for.
func TestOrderAndMost(t *testing.T) {
	a, b := ends()
	first := []api.Packet{send(a, "chan-0", "chan-7", 2, 0, 0), send(a, "chan-0", "chan-7", 16, 0, 0), send(a, "chan-1", "chan-8", 1, 0, 0)}
	send(a, "chan-1", "chan-8", 2, 0, 0) // not its turn
	send(a, "chan-0", "chan-7", 3, 1, 0) // too late
	then := []api.Packet{send(b, "chan-7", "chan-0", 1, 1, 0), send(b, "chan-8", "chan-1", 1, 0, 0)}
	a.Set(packet.Told("chan-1", 1), []byte{9})
	one, two := begun(t, a, "one"), begun(t, b, "two")
	want := []api.Msg{recv(one, first[0]), recv(one, first[1]), recv(one, first[2]), timeout(one, then[0], 1, packet.Receipt("chan-0", 1)), ack(one, then[1], []byte{9})}
	check(t, "all", relay.Work(one, two, 5, all), want...)
	for most := -2; most <= 7; most++ {
		check(t, "most", relay.Work(one, two, 5, most), want[:max(0, min(most, len(want)))]...)
	}
	check(t, "none", relay.Work(one, two, 5, -1<<63))
	root := [][]byte{one.Head().Root, rig.State(one).Root(), rig.State(two).Root()}
	l := relay.Work(one, two, 5, all)
	l[0].Packet.Data[0]++
	l[0].Proof.Leaves[0].Value[0]++
	if !bytes.Equal(root[0], rig.State(one).Root()) || !bytes.Equal(root[1], rig.State(one).Root()) || !bytes.Equal(root[2], rig.State(two).Root()) {
		t.Error("Work changed something")
	}
	check(t, "once more", relay.Work(one, two, 5, all), want...)
}

// What there is to bring is brought, once the other chain is told of the last header.
func TestWorkIsTaken(t *testing.T) {
	brought := map[int]int{}
	for seed := range int64(2) {
		r := rand.New(rand.NewSource(400 + seed))
		p := rig.NewPlay(r.Intn, false)
		for range 250 {
			x := p.Step()
			if _, e := p.W.Do(x); e == api.OK && (x.Kind == 2 || x.Kind == 4) {
				p.Signed[x.On] = map[string]int{}
			}
			for on := range 2 {
				if p.W.Chain(on).Off() {
					p.W.Do(p.Back(on))
					p.Signed[on] = map[string]int{}
				}
			}
			for on := range 2 {
				tryAll(t, p, on, brought)
			}
		}
	}
	for _, kind := range []int{api.Recv, api.Ack, api.Timeout} {
		if brought[kind] == 0 {
			t.Error("never brought", kind)
		}
	}
}

// tryAll: each message of Work alone is done over the state of chain on that follows the other one's last header.
func tryAll(t *testing.T, p *rig.Play, on int, brought map[int]int) {
	t.Helper()
	from, to := p.W.Chain(1-on), p.W.Chain(on)
	h := from.Head()
	now := max(h.Time, to.Head().Time+1)
	s := rig.State(to)
	c, _ := s.Get("ibc/client/client-0")
	rd := wire.Open(c)
	rd.T()
	latest := rd.N()
	if _, known := s.Get(consKey(h.Height)); !known {
		if chain.Do(s, "rob", to.Head().Height+1, now, p.Rig.Update("client-0", p.W.Heads(1 - on)[latest-1], h)) != api.OK {
			return
		}
	}
	for _, m := range relay.Work(from, to, now, 8) {
		if e := chain.Do(s.Branch(), "rob", to.Head().Height+1, now, m); e != api.OK {
			if e == api.ErrTurn && m.Kind == api.Ack { // of an ordered channel: behind the one ahead of it
				continue
			}
			t.Error(m.Kind, e, m.Packet)
		}
		brought[m.Kind]++
	}
}

func consKey(height uint64) string {
	const digits = "0123456789abcdef"
	b := make([]byte, 16)
	for i := range b {
		b[15-i] = digits[height>>(4*i)&15]
	}
	return "ibc/cons/client-0/" + string(b)
}

// The document's first example.
func TestExample(t *testing.T) {
	p := rig.NewPlay(func(n int) int { return n - 1 }, false)
	w := p.W
	if len(relay.Work(w.Chain(0), w.Chain(1), 1, all)) != 0 {
		t.Fatal("something to bring ahead of it all")
	}
	bring := func(from, on, kind int, msgs ...api.Msg) {
		t.Helper()
		l := relay.Work(w.Chain(from), w.Chain(on), w.Chain(on).Head().Time+1, all)
		if len(l) != 1 || l[0].Kind != kind {
			t.Fatal(l)
		}
		c, _ := w.Chain(on).Get("ibc/client/client-0")
		rd := wire.Open(c)
		rd.T()
		tell := p.Rig.Update("client-0", w.Heads(from)[rd.N()-1], w.Chain(from).Head())
		w.Do(api.WStep{Kind: 1, On: on, Tx: p.Rig.Tx(w.Chain(on), "ros", 0, 0, tell, l[0])})
		if r, e := w.Do(p.Block(on)); e != api.OK || r[0] != (api.Result{}) {
			t.Fatal(r, e)
		}
	}
	w.Do(api.WStep{Kind: 1, On: 0, Tx: p.Rig.Tx(w.Chain(0), "bob", 0, 0, api.Msg{Kind: api.Transfer, Chan: "chan-0", Denom: "atom", Amt: limb.Of(5), To: "bob"})})
	w.Do(p.Block(0))
	bring(0, 1, api.Recv)
	if b, _ := w.Chain(1).Get("bal/bob/transfer/chan-0/atom"); !bytes.Equal(b, limb.Bytes(limb.Of(5))) {
		t.Error(b)
	}
	bring(1, 0, api.Ack)
	if len(relay.Work(w.Chain(0), w.Chain(1), 1, all))+len(relay.Work(w.Chain(1), w.Chain(0), 1, all)) != 0 {
		t.Error("something to bring behind it all")
	}
}
