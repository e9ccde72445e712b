package fee_test

import (
	"bytes"
	"math/rand"
	"testing"

	"isthmus/api"
	"isthmus/bank"
	"isthmus/fee"
	"isthmus/limb"
	"isthmus/packet"
	"isthmus/store"
	"isthmus/wire"
)

var most = api.U{1<<64 - 1, 1<<64 - 1, 1<<64 - 1, 1<<64 - 1}

func of(n uint64) api.U { return limb.Of(n) }

func pay(denom string, a, b, c uint64) api.Pay {
	return api.Pay{Denom: denom, Recv: of(a), Ack: of(b), Timeout: of(c)}
}

// ready: packet 1 of chan-0 on its way, ann with 20 fuel.
func ready() *store.Store {
	s, _ := store.New(nil)
	s.Set(packet.Commit("chan-0", 1), []byte{1})
	bank.Mint(s, "ann", "fuel", of(20))
	return s
}

func want(t *testing.T, got, e api.Errno) {
	t.Helper()
	if got != e {
		t.Error(got, "instead of", e)
	}
}

// refused: the error, and nothing changed.
func refused(t *testing.T, s *store.Store, e api.Errno, do func() api.Errno) {
	t.Helper()
	before := s.Root()
	if got := do(); got != e || !bytes.Equal(before, s.Root()) {
		t.Error(got, "instead of", e)
	}
}

func form(from, denom string, amounts ...[]byte) []byte {
	b := wire.T(wire.T(nil, from), denom)
	for _, a := range amounts {
		b = wire.B(b, a)
	}
	return b
}

func one() []byte { return limb.Bytes(of(1)) }

func TestGetAndAhead(t *testing.T) {
	s := ready()
	want(t, fee.Ahead(s, "ann", "chan-0", 1, pay("fuel", 3, 2, 1)), api.OK)
	if b, _ := s.Get("fee/chan-0/0000000000000001"); !bytes.Equal(b, form("ann", "fuel", limb.Bytes(of(3)), limb.Bytes(of(2)), limb.Bytes(of(1)))) {
		t.Error(b)
	}
	if x, ok := fee.Get(s, "chan-0", 1); !ok || x != (fee.Paid{"ann", pay("fuel", 3, 2, 1)}) {
		t.Error(x, ok)
	}
	if bank.Bal(s, fee.Pool, "fuel") != of(6) || bank.Bal(s, "ann", "fuel") != of(14) || fee.Pool != "feepool" {
		t.Error("the pool")
	}
	refused(t, s, api.ErrPay, func() api.Errno { return fee.Ahead(s, "ann", "chan-0", 1, api.Pay{Recv: most, Ack: most}) })
	good := form("ann", "fuel", one(), one(), one())
	bad := [][]byte{nil, good[:len(good)-1], append(bytes.Clone(good), 0), form("ann", "fuel", one(), one()), form("ann", "fuel", one(), make([]byte, 31), one()), form("ann", "fuel", one(), one(), append(one(), 0))}
	for i, b := range bad {
		s.Set("fee/chan-0/0000000000000001", b)
		if x, ok := fee.Get(s, "chan-0", 1); ok || x != (fee.Paid{}) {
			t.Error(i, x)
		}
		refused(t, s, api.ErrPay, func() api.Errno { return fee.Ahead(s, "ann", "chan-0", 1, pay("fuel", 1, 1, 1)) }) // something is there
		refused(t, s, api.OK, func() api.Errno { return fee.Settle(s, api.Packet{Src: "chan-0", Seq: 1}, "a", "b", false) })
	}
}

func TestAheadRefuses(t *testing.T) {
	s := ready()
	s.Set(packet.Commit("Chan", 1), []byte{1})
	over := api.Pay{Denom: "", Recv: most, Timeout: of(1)}
	cases := []struct {
		from, id string
		seq      uint64
		p        api.Pay
		want     api.Errno
	}{
		{"", "Chan", 1, over, api.ErrName},
		{"", "", 1, over, api.ErrName},
		{"", "chan-0", 2, over, api.ErrPacket},
		{"", "chan-1", 1, over, api.ErrPacket},
		{"", "chan-0", 1, over, api.ErrOver},
		{"", "chan-0", 1, api.Pay{Recv: most, Ack: of(1)}, api.ErrOver},
		{"", "chan-0", 1, api.Pay{Recv: most, Ack: most, Timeout: of(2)}, api.ErrOver},
		{"", "chan-0", 1, api.Pay{}, api.ErrName},
		{"ann", "chan-0", 1, pay("", 1, 1, 1), api.ErrDenom},
		{"ann", "chan-0", 1, pay("fuel", 0, 0, 0), api.ErrZero},
		{"ann", "chan-0", 1, pay("fuel", 7, 7, 7), api.ErrFunds},
		{"ann", "chan-0", 1, api.Pay{Denom: "fuel", Timeout: most}, api.ErrFunds},
	}
	for _, c := range cases {
		refused(t, s, c.want, func() api.Errno { return fee.Ahead(s, c.from, c.id, c.seq, c.p) })
	}
	want(t, fee.Ahead(s, "ann", "chan-0", 1, pay("fuel", 0, 20, 0)), api.OK)
}

func TestSettle(t *testing.T) {
	p := api.Packet{Src: "chan-0", Dst: "chan-7", Seq: 1}
	cases := []struct {
		forward, by   string
		late          bool
		ros, rob, ann uint64 // of 3, 2, 1 paid ahead by ann, who keeps 14
	}{
		{"ros", "rob", false, 3, 2, 15},
		{"ros", "rob", true, 0, 1, 19},
		{"", "rob", true, 0, 1, 19},
		{"Ros!", "rob", false, 0, 2, 18},
		{"ros", "", false, 3, 0, 17},
		{"", "", false, 0, 0, 20},
		{"ros", "R", true, 0, 0, 20},
		{"rob", "rob", false, 0, 5, 15},
		{"ann", "ann", false, 0, 0, 20},
	}
	for i, c := range cases {
		s := ready()
		want(t, fee.Ahead(s, "ann", "chan-0", 1, pay("fuel", 3, 2, 1)), api.OK)
		want(t, fee.Settle(s, p, c.forward, c.by, c.late), api.OK)
		if bank.Bal(s, "ros", "fuel") != of(c.ros) || bank.Bal(s, "rob", "fuel") != of(c.rob) || bank.Bal(s, "ann", "fuel") != of(c.ann) || bank.Bal(s, fee.Pool, "fuel") != of(0) {
			t.Error(i, bank.Bal(s, "ros", "fuel"), bank.Bal(s, "rob", "fuel"), bank.Bal(s, "ann", "fuel"))
		}
		if _, ok := s.Get("fee/chan-0/0000000000000001"); ok {
			t.Error(i, "it is kept still")
		}
		refused(t, s, api.OK, func() api.Errno { return fee.Settle(s, p, c.forward, c.by, c.late) })
	}
	s := ready()
	want(t, fee.Ahead(s, "ann", "chan-0", 1, pay("fuel", 0, 4, 0)), api.OK)
	refused(t, s, api.OK, func() api.Errno { return fee.Settle(s, api.Packet{Src: "chan-0", Seq: 2}, "a", "b", false) })
	refused(t, s, api.OK, func() api.Errno {
		return fee.Settle(s, api.Packet{Src: "chan-7", Dst: "chan-0", Seq: 1}, "a", "b", false)
	})
	want(t, fee.Settle(s, p, "ros", "rob", false), api.OK) // gifts of nothing aren't made
	if bank.Bal(s, "rob", "fuel") != of(4) {
		t.Error("rob")
	}
}

// The pool has too little: the first error is the answer, and nothing changes.
func TestSettleRefuses(t *testing.T) {
	s := ready()
	want(t, fee.Ahead(s, "ann", "chan-0", 1, pay("fuel", 3, 2, 1)), api.OK)
	bank.Send(s, fee.Pool, "thief", "fuel", of(2))
	refused(t, s, api.ErrFunds, func() api.Errno {
		return fee.Settle(s, api.Packet{Src: "chan-0", Seq: 1}, "ros", "rob", false)
	})
	s.Set("fee/chan-0/0000000000000001", form("Ann", "fuel", one(), one(), one()))
	refused(t, s, api.ErrName, func() api.Errno {
		return fee.Settle(s, api.Packet{Src: "chan-0", Seq: 1}, "ros", "rob", false)
	})
	s.Set("fee/chan-0/0000000000000001", form("ann", "/", one(), one(), one()))
	refused(t, s, api.ErrDenom, func() api.Errno {
		return fee.Settle(s, api.Packet{Src: "chan-0", Seq: 1}, "ros", "rob", false)
	})
}

// The pool has of each denomination what is paid ahead and not settled.
func TestPoolIsTheSum(t *testing.T) {
	r := rand.New(rand.NewSource(13))
	s := ready()
	bank.Mint(s, "ann", "atom", of(200))
	bank.Mint(s, "bob", "fuel", of(200))
	for seq := uint64(1); seq < 8; seq++ {
		s.Set(packet.Commit("chan-0", seq), []byte{1})
	}
	who := []string{"ann", "bob", "rob", "", "Bad"}
	for range 2000 {
		seq := uint64(1 + r.Intn(8))
		if r.Intn(2) == 0 {
			fee.Ahead(s, who[r.Intn(5)], "chan-0", seq, pay([]string{"fuel", "atom", "x"}[r.Intn(3)], uint64(r.Intn(4)), uint64(r.Intn(4)), uint64(r.Intn(4))))
		} else {
			fee.Settle(s, api.Packet{Src: "chan-0", Seq: seq}, who[r.Intn(5)], who[r.Intn(5)], r.Intn(2) == 0)
		}
		sums := map[string]api.U{}
		for seq := uint64(1); seq < 9; seq++ {
			if x, ok := fee.Get(s, "chan-0", seq); ok {
				for _, amt := range []api.U{x.Pay.Recv, x.Pay.Ack, x.Pay.Timeout} {
					sums[x.Pay.Denom], _ = limb.Add(sums[x.Pay.Denom], amt)
				}
			}
		}
		for _, d := range []string{"fuel", "atom"} {
			if bank.Bal(s, fee.Pool, d) != sums[d] {
				t.Fatal(d, bank.Bal(s, fee.Pool, d), sums[d])
			}
		}
	}
}

func TestNilStoreEnds(t *testing.T) {
	fee.Get(nil, "chan-0", 1)
	fee.Ahead(nil, "ann", "chan-0", 1, pay("fuel", 1, 1, 1))
	fee.Settle(nil, api.Packet{Src: "chan-0"}, "a", "b", true)
}
