package bank_test

import (
	"bytes"
	"math/rand"
	"strings"
	"testing"

	"isthmus/api"
	"isthmus/bank"
	"isthmus/limb"
	"isthmus/store"
)

var most = api.U{1<<64 - 1, 1<<64 - 1, 1<<64 - 1, 1<<64 - 1}

func empty() *store.Store {
	s, _ := store.New(nil)
	return s
}

func want(t *testing.T, got, e api.Errno) {
	t.Helper()
	if got != e {
		t.Error(got, "instead of", e)
	}
}

func of(n uint64) api.U { return limb.Of(n) }

func TestExample(t *testing.T) {
	s := empty()
	want(t, bank.Mint(s, "ann", "atom", of(10)), api.OK)
	want(t, bank.Send(s, "ann", "bob", "atom", of(4)), api.OK)
	if bank.Bal(s, "ann", "atom") != of(6) || bank.Bal(s, "bob", "atom") != of(4) || bank.Supply(s, "atom") != of(10) {
		t.Error("balances")
	}
	want(t, bank.Send(s, "ann", "bob", "atom", of(7)), api.ErrFunds)
	want(t, bank.Burn(s, "bob", "atom", of(4)), api.OK)
	l := s.Pairs("")
	if len(l) != 2 || l[0].Key != "bal/ann/atom" || !bytes.Equal(l[0].Value, limb.Bytes(of(6))) || l[1].Key != "sup/atom" || !bytes.Equal(l[1].Value, limb.Bytes(of(6))) {
		t.Error(l)
	}
	want(t, bank.Send(s, "ann", "cyd", "atom", of(6)), api.OK)
	want(t, bank.Burn(s, "cyd", "atom", of(6)), api.OK)
	if len(s.Pairs("")) != 0 {
		t.Error("amounts of 0 are kept")
	}
}

func TestRight(t *testing.T) {
	cases := []struct {
		addr, denom string
		amt         api.U
		want        api.Errno
	}{
		{"ann", "atom", of(1), api.OK},
		{"ann", "transfer/chan-0/atom", api.U{0, 0, 0, 1}, api.OK},
		{"", "", api.U{}, api.ErrName},
		{"Ann", "atom", of(1), api.ErrName},
		{"a/b", "atom", of(1), api.ErrName},
		{"ann", "", api.U{}, api.ErrDenom},
		{"ann", "x/atom", of(1), api.ErrDenom},
		{"ann", "atom", api.U{}, api.ErrZero},
	}
	for i, c := range cases {
		s := empty()
		want(t, bank.Right(c.addr, c.denom, c.amt), c.want)
		if c.want == api.OK {
			continue
		}
		want(t, bank.Mint(s, c.addr, c.denom, c.amt), c.want)
		want(t, bank.Burn(s, c.addr, c.denom, c.amt), c.want)
		want(t, bank.Send(s, c.addr, "To", c.denom, c.amt), c.want)
		if len(s.Pairs("")) != 0 {
			t.Error(i, "changed")
		}
	}
}

func TestWhatIsNotThere(t *testing.T) {
	s := empty()
	s.Set("bal/ann/atom", make([]byte, 31))
	s.Set("bal/bob/atom", append(limb.Bytes(of(5)), 0))
	s.Set("bal/Cyd/atom", limb.Bytes(of(5)))
	s.Set("bal/dan/x/y", limb.Bytes(of(5)))
	s.Set("bal/dan/x", limb.Bytes(of(5)))
	s.Set("sup/atom", nil)
	s.Set("sup/x/y", limb.Bytes(of(5)))
	s.Set("bal//atom", limb.Bytes(of(5)))
	for _, a := range []string{"ann", "bob", "Cyd", "", strings.Repeat("a", 500)} {
		if bank.Bal(s, a, "atom") != (api.U{}) {
			t.Error(a)
		}
	}
	if bank.Bal(s, "dan", "x/y") != (api.U{}) || bank.Bal(s, "dan/x", "y") != (api.U{}) || bank.Supply(s, "atom") != (api.U{}) || bank.Supply(s, "x/y") != (api.U{}) || bank.Supply(s, "") != (api.U{}) {
		t.Error("what has another form")
	}
	if bank.Bal(s, "dan", "x") != of(5) {
		t.Error("what has the form")
	}
	want(t, bank.Send(s, "ann", "bob", "atom", of(1)), api.ErrFunds)
	want(t, bank.Mint(s, "ann", "atom", of(2)), api.OK) // what has another form counts as 0
	want(t, bank.Send(s, "ann", "bob", "atom", of(1)), api.OK)
	if bank.Bal(s, "bob", "atom") != of(1) || bank.Supply(s, "atom") != of(2) {
		t.Error("counted as something")
	}
	s.Set("bal/zed/atom", make([]byte, 32)) // a kept 0 is 0
	want(t, bank.Burn(s, "zed", "atom", of(1)), api.ErrFunds)
}

func TestMintAndBurnRefuse(t *testing.T) {
	s := empty()
	want(t, bank.Mint(s, "ann", "atom", most), api.OK)
	root := s.Root()
	want(t, bank.Mint(s, "bob", "atom", of(1)), api.ErrOver) // the supply
	want(t, bank.Mint(s, "ann", "atom", of(1)), api.ErrOver)
	want(t, bank.Burn(s, "bob", "atom", of(1)), api.ErrFunds) // the balance
	if !bytes.Equal(root, s.Root()) {
		t.Error("changed")
	}
	s.Set("sup/atom", limb.Bytes(of(3)))
	root = s.Root()
	want(t, bank.Mint(s, "ann", "atom", of(1)), api.ErrOver)  // the balance alone
	want(t, bank.Burn(s, "ann", "atom", of(4)), api.ErrFunds) // the supply alone
	if !bytes.Equal(root, s.Root()) {
		t.Error("changed")
	}
	want(t, bank.Burn(s, "ann", "atom", of(3)), api.OK)
	if bank.Supply(s, "atom") != (api.U{}) {
		t.Error("supply")
	}
}

func TestSendRefuses(t *testing.T) {
	s := empty()
	want(t, bank.Mint(s, "ann", "atom", of(5)), api.OK)
	s.Set("bal/rich/atom", limb.Bytes(most))
	root := s.Root()
	want(t, bank.Send(s, "ann", "", "atom", of(9)), api.ErrName)
	want(t, bank.Send(s, "ann", "B", "atom", of(1)), api.ErrName)
	want(t, bank.Send(s, "ann", "B", "", of(1)), api.ErrDenom)
	want(t, bank.Send(s, "ann", "B", "atom", api.U{}), api.ErrZero)
	want(t, bank.Send(s, "ann", "ann", "atom", of(6)), api.ErrFunds)
	want(t, bank.Send(s, "ann", "ann", "atom", of(5)), api.OK)
	want(t, bank.Send(s, "ann", "rich", "atom", of(6)), api.ErrFunds)
	want(t, bank.Send(s, "ann", "rich", "atom", of(1)), api.ErrOver)
	want(t, bank.Send(s, "rich", "rich", "atom", most), api.OK)
	if !bytes.Equal(root, s.Root()) {
		t.Error("changed")
	}
	want(t, bank.Send(s, "rich", "ann", "atom", of(1)), api.OK)
	if bank.Bal(s, "ann", "atom") != of(6) {
		t.Error("ann")
	}
}

// From nothing on, every supply is the sum of its balances, and what is refused changes nothing.
func TestSuppliesAreSums(t *testing.T) {
	r := rand.New(rand.NewSource(7))
	s := empty()
	who := []string{"ann", "bob", "cyd", "Bad"}
	denoms := []string{"atom", "transfer/chan-0/atom", "/"}
	amounts := []api.U{{}, of(1), of(5), {0, 0, 0, 1 << 63}, {0, 0, 0, 1 << 62}, most}
	for range 3000 {
		a, b, d, n := who[r.Intn(4)], who[r.Intn(4)], denoms[r.Intn(3)], amounts[r.Intn(6)]
		before := s.Root()
		var e api.Errno
		switch r.Intn(4) {
		case 0:
			e = bank.Mint(s, a, d, n)
		case 1:
			e = bank.Burn(s, a, d, n)
		default:
			e = bank.Send(s, a, b, d, n)
		}
		if e != api.OK && !bytes.Equal(before, s.Root()) {
			t.Fatal("an error changed something", e)
		}
		for _, d := range denoms[:2] {
			var sum api.U
			for _, p := range s.Pairs("bal/") {
				if strings.HasSuffix(p.Key, "/"+d) && strings.Count(p.Key, "/") == strings.Count(d, "/")+2 {
					x, _ := limb.From(p.Value)
					sum, _ = limb.Add(sum, x)
				}
			}
			if sum != bank.Supply(s, d) {
				t.Fatal(d, sum, bank.Supply(s, d))
			}
		}
		for _, p := range s.Pairs("") {
			if bytes.Equal(p.Value, make([]byte, 32)) {
				t.Fatal("an amount of 0 is kept")
			}
		}
	}
}

func TestNilStoreEnds(t *testing.T) {
	bank.Bal(nil, "ann", "atom")
	bank.Supply(nil, "atom")
	bank.Mint(nil, "ann", "atom", of(1))
	bank.Burn(nil, "ann", "atom", of(1))
	bank.Send(nil, "ann", "bob", "atom", of(1))
}
