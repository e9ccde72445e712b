package chain

import (
	"bytes"
	"slices"
	"strings"

	"isthmus/api"
	"isthmus/auth"
	"isthmus/bank"
	"isthmus/fee"
	"isthmus/limb"
	"isthmus/name"
	"isthmus/store"
	"isthmus/vals"
)

// Own: is it an address that nobody may sign for?
func Own(addr string) bool {
	return addr == auth.Fees || addr == fee.Pool || strings.HasPrefix(addr, "escrow.") || strings.HasPrefix(addr, "ica.")
}

// Right: the error of a beginning.
func Right(g api.Genesis) api.Errno {
	_, e := begun(g)
	return e
}

// begun: the store that a beginning has, or its error.
func begun(g api.Genesis) (*store.Store, api.Errno) {
	if !name.Ident(g.Chain) {
		return nil, api.ErrName
	}
	if !vals.Right(g.Vals) || !vals.Right(g.Next) {
		return nil, api.ErrVals
	}
	s, e := store.New(g.Pairs)
	if e != api.OK {
		return nil, e
	}
	for _, p := range g.Pairs {
		if !placed(s, p.Key) {
			return nil, api.ErrGenesis
		}
	}
	if !balanced(s) {
		return nil, api.ErrGenesis
	}
	return s, api.OK
}

// placed: may something stand under that key at a beginning?
func placed(s *store.Store, key string) bool {
	part, rest, ok := strings.Cut(key, "/")
	if !ok {
		return false
	}
	switch part {
	case "acc":
		_, has := auth.Get(s, rest)
		return name.Ident(rest) && !Own(rest) && has
	case "bal", "sup", "limit", "ibc", "ica", "fee":
		return true
	}
	return false
}

// balanced: do the balances make just the supplies that are there?
func balanced(s *store.Store) bool {
	made, _ := store.New(nil)
	for _, p := range s.Pairs("bal/") {
		addr, denom, _ := strings.Cut(strings.TrimPrefix(p.Key, "bal/"), "/")
		amt, e := limb.From(p.Value)
		if e != api.OK || bank.Mint(made, addr, denom, amt) != api.OK {
			return false
		}
	}
	return slices.EqualFunc(made.Pairs("sup/"), s.Pairs("sup/"), samePair)
}

func samePair(a, b api.Pair) bool {
	return a.Key == b.Key && bytes.Equal(a.Value, b.Value)
}
