// Package rig sets up chains, signers and relayers for the tests of the layers 21 to 24.
package rig

import (
	"cmp"
	"slices"
	"strconv"

	"isthmus/api"
	"isthmus/auth"
	"isthmus/bank"
	"isthmus/chain"
	"isthmus/limb"
	"isthmus/sha"
	"isthmus/sign"
	"isthmus/store"
	"isthmus/tx"
	"isthmus/vals"
)

// Gas is more than any transaction here takes.
const Gas = 1 << 40

// key: a seed, and how many others the same account had ahead of it.
type key struct {
	seed  []byte
	after int
}

// Rig knows the seeds of all keys, by their roots, and all sets of validators, by their hashes.
type Rig struct {
	keys map[string]key
	sets map[string][]api.Val
}

// New: a rig that knows nothing yet.
func New() *Rig {
	return &Rig{keys: map[string]key{}, sets: map[string][]api.Val{}}
}

// Root: the root of an account's keys, behind so many others.
func (r *Rig) Root(who string, after int) []byte {
	seed := []byte(who + " " + strconv.Itoa(after))
	root := sign.Root(seed)
	r.keys[sha.Hex(root)] = key{seed, after}
	return root
}

// Set: validators of these names with a power of 1 each; the rig knows the set from now on.
func (r *Rig) Set(names ...string) []api.Val {
	var l []api.Val
	for _, name := range names {
		l = append(l, api.Val{Name: name, Power: 1})
	}
	r.sets[sha.Hex(vals.Hash(l))] = l
	return l
}

// SetOf: the set of a hash.
func (r *Rig) SetOf(hash []byte) []api.Val {
	return r.sets[sha.Hex(hash)]
}

// Coin: what somebody has at the beginning.
type Coin struct {
	Who, Denom string
	Amt        uint64
}

// Genesis: a beginning at time 100, with an account for each of who, and these coins.
func (r *Rig) Genesis(name string, set []api.Val, who []string, coins ...Coin) api.Genesis {
	s, _ := store.New(nil)
	for _, w := range who {
		auth.Create(s, w, r.Root(w, 0))
	}
	for _, c := range coins {
		bank.Mint(s, c.Who, c.Denom, limb.Of(c.Amt))
	}
	return api.Genesis{Chain: name, Time: 100, Vals: set, Next: set, Pairs: s.Pairs("")}
}

// With: a beginning with one pair more.
func With(g api.Genesis, k string, value []byte) api.Genesis {
	g.Pairs = append(slices.Clone(g.Pairs), api.Pair{Key: k, Value: value})
	slices.SortFunc(g.Pairs, func(a, b api.Pair) int { return cmp.Compare(a.Key, b.Key) })
	return g
}

// State: a chain's last state.
func State(c *chain.Chain) *store.Store {
	s, _ := store.New(c.Pairs(""))
	return s
}

// Tx: a transaction of the account's number plus so many that wait, signed, in bytes.
func (r *Rig) Tx(c *chain.Chain, who string, waiting uint64, fee uint64, msgs ...api.Msg) []byte {
	return r.TxGas(c, who, waiting, fee, Gas, msgs...)
}

// TxGas: the same with so much gas.
func (r *Rig) TxGas(c *chain.Chain, who string, waiting uint64, fee, gas uint64, msgs ...api.Msg) []byte {
	a, _ := auth.Get(State(c), who)
	t := api.Tx{Signer: who, Seq: a.Seq + waiting, Gas: gas, Fee: limb.Of(fee), Msgs: msgs}
	b, _ := tx.SignBytes(c.Head().Chain, t)
	t.Sig, _ = sign.Sign(r.keys[sha.Hex(a.Root)].seed, int(t.Seq-a.Base), sha.Sum(b))
	b, _ = tx.Encode(t)
	return b
}

// Worn: has the account one key left? Then a message that gives it others.
func (r *Rig) Worn(c *chain.Chain, who string) (api.Msg, bool) {
	a, _ := auth.Get(State(c), who)
	if a.Seq-a.Base < api.Keys-1 {
		return api.Msg{}, false
	}
	after := r.keys[sha.Hex(a.Root)].after + 1
	return api.Msg{Kind: api.Rekey, Ack: r.Root(who, after)}, true
}

// Names: of all of a set.
func Names(l []api.Val) []string {
	var names []string
	for _, v := range l {
		names = append(names, v.Name)
	}
	return names
}

// Update: a message that tells a client of a header, with the votes of all of its set, out of what it trusts of a header ahead of it.
func (r *Rig) Update(client string, trusted, h api.Header) api.Msg {
	set, before := r.SetOf(h.Vals), r.SetOf(trusted.Next)
	return api.Msg{Kind: api.ClientUpdate, Client: client, Header: h, Vals: set, Votes: votes(set, before), At: trusted.Height, Trusted: before}
}

// votes: of a set, and of as many more of another one as a message holds.
func votes(set, more []api.Val) []string {
	l := Names(set)
	for _, name := range Names(more) {
		if len(l) < api.MaxVals && !slices.Contains(l, name) {
			l = append(l, name)
		}
	}
	return l
}
