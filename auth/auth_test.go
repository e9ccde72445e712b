package auth_test

import (
	"bytes"
	"strings"
	"testing"

	"isthmus/api"
	"isthmus/auth"
	"isthmus/bank"
	"isthmus/limb"
	"isthmus/sha"
	"isthmus/sign"
	"isthmus/store"
	"isthmus/tx"
	"isthmus/wire"
)

func empty() *store.Store {
	s, _ := store.New(nil)
	return s
}

func want(t *testing.T, got, e api.Errno) {
	t.Helper()
	if got != e {
		t.Error(got, "instead of", e)
	}
}

func signed(t *testing.T, seed, chain string, key int, x api.Tx) api.Tx {
	t.Helper()
	b, e := tx.SignBytes(chain, x)
	if e != api.OK {
		t.Fatal(e)
	}
	x.Sig, _ = sign.Sign([]byte(seed), key, sha.Sum(b))
	return x
}

func kept(root []byte, base, seq uint64) []byte {
	return wire.N(wire.N(wire.B(nil, root), base), seq)
}

func TestCreateGetRekey(t *testing.T) {
	s := empty()
	root, other := sign.Root([]byte("ann")), sign.Root([]byte("new"))
	want(t, auth.Create(s, "Ann", nil), api.ErrName)
	want(t, auth.Create(s, "", root), api.ErrName)
	want(t, auth.Create(s, "ann", root[:31]), api.ErrSig)
	want(t, auth.Create(s, "ann", append(bytes.Clone(root), 1)), api.ErrSig)
	want(t, auth.Create(s, "ann", nil), api.ErrSig)
	want(t, auth.Rekey(s, "ann", nil), api.ErrSigner)
	if len(s.Pairs("")) != 0 {
		t.Error("changed")
	}
	want(t, auth.Create(s, "ann", root), api.OK)
	want(t, auth.Create(s, "ann", root), api.ErrState)
	want(t, auth.Create(s, "ann", nil), api.ErrSig)
	if b, ok := s.Get("acc/ann"); !ok || !bytes.Equal(b, kept(root, 0, 0)) {
		t.Error(b)
	}
	if a, ok := auth.Get(s, "ann"); !ok || !bytes.Equal(a.Root, root) || a.Base != 0 || a.Seq != 0 {
		t.Error(a, ok)
	}
	s.Set("acc/ann", kept(root, 3, 9))
	want(t, auth.Rekey(s, "ann", other[:5]), api.ErrSig)
	want(t, auth.Rekey(s, "ann", other), api.OK)
	if a, ok := auth.Get(s, "ann"); !ok || !bytes.Equal(a.Root, other) || a.Base != 9 || a.Seq != 9 {
		t.Error(a, ok)
	}
}

func TestGetOfOtherForms(t *testing.T) {
	root := make([]byte, 32)
	for i, b := range [][]byte{nil, {1}, kept(root, 1, 2)[:51], append(kept(root, 1, 2), 0), make([]byte, 15)} {
		s := empty()
		s.Set("acc/ann", b)
		if a, ok := auth.Get(s, "ann"); ok || len(a.Root) != 0 || a.Base != 0 || a.Seq != 0 {
			t.Error(i, a)
		}
		want(t, auth.Create(s, "ann", root), api.ErrState) // something is kept there
		want(t, auth.Rekey(s, "ann", root), api.ErrSigner)
		want(t, auth.Check(s, "c", api.Tx{Signer: "ann"}), api.ErrSigner)
	}
	s := empty()
	s.Set("acc/Not one!", kept(root, 1, 2))
	if a, ok := auth.Get(s, "Not one!"); !ok || a.Seq != 2 {
		t.Error("whether it is an identifier is asked")
	}
	if _, ok := auth.Get(s, strings.Repeat("a", 1000)); ok {
		t.Error("a key that is too long")
	}
}

func TestCheck(t *testing.T) {
	s := empty()
	auth.Create(s, "ann", sign.Root([]byte("ann")))
	good := signed(t, "ann", "one", 0, api.Tx{Signer: "ann", Gas: 5, Msgs: []api.Msg{{Kind: 1}}})
	root := s.Root()
	want(t, auth.Check(s, "one", good), api.OK)
	want(t, auth.Check(s, "two", good), api.ErrSig)
	x := good
	x.Signer = "bob"
	x.Seq = 7
	want(t, auth.Check(s, "one", x), api.ErrSigner)
	x = good
	x.Seq = 1
	want(t, auth.Check(s, "one", x), api.ErrSeq)
	x = good
	x.Gas++
	want(t, auth.Check(s, "one", x), api.ErrSig)
	x = good
	x.Sig = x.Sig[:671]
	want(t, auth.Check(s, "one", x), api.ErrSig)
	x = good
	x.Sig = nil
	want(t, auth.Check(s, "one", x), api.ErrSig)
	x.Msgs = make([]api.Msg, 9)
	want(t, auth.Check(s, "one", x), api.ErrMany)
	x.Msgs = []api.Msg{{Kind: -1}}
	want(t, auth.Check(s, "one", x), api.ErrArg)
	x.Msgs = []api.Msg{{To: strings.Repeat("x", 65536)}}
	want(t, auth.Check(s, "one", x), api.ErrLong)
	want(t, auth.Check(s, "one", signed(t, "ann", "one", 1, api.Tx{Signer: "ann"})), api.ErrSig) // another key's
	want(t, auth.Check(s, "one", signed(t, "bob", "one", 0, api.Tx{Signer: "ann"})), api.ErrSig)
	if !bytes.Equal(root, s.Root()) {
		t.Error("Check changed something")
	}
}

// The number tells the key: from the base on, eight of them.
func TestKeys(t *testing.T) {
	s := empty()
	root := sign.Root([]byte("ann"))
	for _, c := range []struct {
		base, seq uint64
		key       int
		want      api.Errno
	}{{5, 5, 0, api.OK}, {5, 12, 7, api.OK}, {5, 13, 0, api.ErrKeys}, {5, 4, 0, api.ErrKeys}, {0, 8, 0, api.ErrKeys}, {1<<64 - 3, 1<<64 - 1, 2, api.OK}, {1<<64 - 3, 0, 3, api.ErrKeys}, {0, 1<<63 + 3, 3, api.ErrKeys}, {0, 256, 0, api.ErrKeys}} {
		s.Set("acc/ann", kept(root, c.base, c.seq))
		x := signed(t, "ann", "one", c.key, api.Tx{Signer: "ann", Seq: c.seq})
		want(t, auth.Check(s, "one", x), c.want)
		x.Seq++
		want(t, auth.Check(s, "one", x), api.ErrSeq) // ahead of the keys
	}
	s.Set("acc/ann", kept(root, 0, 9))
	want(t, auth.Check(s, "one", api.Tx{Signer: "ann", Seq: 9, Msgs: make([]api.Msg, 9)}), api.ErrKeys) // ahead of the bytes
}

func TestAnte(t *testing.T) {
	s := empty()
	auth.Create(s, "ann", sign.Root([]byte("ann")))
	bank.Mint(s, "ann", auth.Fuel, limb.Of(10))
	first := signed(t, "ann", "one", 0, api.Tx{Signer: "ann", Fee: limb.Of(4)})
	want(t, auth.Ante(s, "one", first), api.OK)
	if bank.Bal(s, "ann", "fuel") != limb.Of(6) || bank.Bal(s, "fees", "fuel") != limb.Of(4) {
		t.Error("the fee")
	}
	if a, _ := auth.Get(s, "ann"); a.Seq != 1 || a.Base != 0 || !bytes.Equal(a.Root, sign.Root([]byte("ann"))) {
		t.Error(a)
	}
	want(t, auth.Ante(s, "one", first), api.ErrSeq)
	root := s.Root()
	want(t, auth.Ante(s, "one", signed(t, "ann", "one", 1, api.Tx{Signer: "ann", Seq: 1, Fee: limb.Of(7)})), api.ErrFunds)
	want(t, auth.Ante(s, "two", signed(t, "ann", "one", 1, api.Tx{Signer: "ann", Seq: 1})), api.ErrSig)
	if !bytes.Equal(root, s.Root()) {
		t.Error("an error changed something")
	}
	for i := uint64(1); i < 8; i++ {
		want(t, auth.Ante(s, "one", signed(t, "ann", "one", int(i), api.Tx{Signer: "ann", Seq: i})), api.OK)
	}
	ninth := signed(t, "ann", "one", 0, api.Tx{Signer: "ann", Seq: 8})
	want(t, auth.Ante(s, "one", ninth), api.ErrKeys)
	want(t, auth.Rekey(s, "ann", sign.Root([]byte("more"))), api.OK)
	want(t, auth.Ante(s, "one", ninth), api.ErrSig)
	want(t, auth.Ante(s, "one", signed(t, "more", "one", 0, api.Tx{Signer: "ann", Seq: 8})), api.OK)
	s.Set("acc/ann", kept(sign.Root([]byte("ann")), 1<<64-1, 1<<64-1))
	want(t, auth.Ante(s, "one", signed(t, "ann", "one", 0, api.Tx{Signer: "ann", Seq: 1<<64 - 1})), api.OK)
	if a, _ := auth.Get(s, "ann"); a.Seq != 0 {
		t.Error("the number doesn't wrap round", a)
	}
}

// The fees' own account pays to itself: nothing moves, and the number is one more.
func TestFeesPaysItself(t *testing.T) {
	s := empty()
	auth.Create(s, auth.Fees, sign.Root([]byte("f")))
	bank.Mint(s, auth.Fees, auth.Fuel, limb.Of(3))
	want(t, auth.Ante(s, "one", signed(t, "f", "one", 0, api.Tx{Signer: auth.Fees, Fee: limb.Of(3)})), api.OK)
	if bank.Bal(s, auth.Fees, auth.Fuel) != limb.Of(3) {
		t.Error("moved")
	}
}

func TestNilStoreEnds(t *testing.T) {
	auth.Get(nil, "ann")
	auth.Create(nil, "ann", make([]byte, 32))
	auth.Rekey(nil, "ann", make([]byte, 32))
	auth.Check(nil, "c", api.Tx{Signer: "ann"})
	auth.Ante(nil, "c", api.Tx{Signer: "ann"})
}
