package world_test

import (
	"bytes"
	"math/rand"
	"reflect"
	"strings"
	"testing"

	"isthmus/api"
	"isthmus/bank"
	"isthmus/chain"
	"isthmus/chans"
	"isthmus/disk"
	"isthmus/limb"
	"isthmus/name"
	"isthmus/packet"
	"isthmus/rig"
	"isthmus/store"
	"isthmus/transfer"
	"isthmus/tx"
)

// watch holds a world to the promises P1 to P6 from step to step.
type watch struct {
	t      *testing.T
	p      *rig.Play
	states [2]*store.Store
	waits  [2][][]byte
	inflow [2][]arrival
	seen   map[string]int
	all    bool // are all validators faulty?
}

// arrival: what came in under the limit, in which block.
type arrival struct {
	height uint64
	amt    api.U
}

func sum(l []api.U) api.U {
	var n api.U
	for _, x := range l {
		n, _ = limb.Add(n, x)
	}
	return n
}

// money: P2: supplies without hops never change; every supply is the sum of its balances.
func (w *watch) money(on int) {
	s := w.states[on]
	byDenom := map[string][]api.U{}
	for _, x := range s.Pairs("bal/") {
		_, denom, _ := strings.Cut(x.Key[4:], "/")
		n, e := limb.From(x.Value)
		if e != api.OK || limb.Zero(n) {
			w.t.Fatal("a balance", x)
		}
		byDenom[denom] = append(byDenom[denom], n)
	}
	for _, x := range s.Pairs("sup/") {
		denom := x.Key[4:]
		if sum(byDenom[denom]) != bank.Supply(s, denom) {
			w.t.Fatal("a supply isn't the sum of its balances", denom)
		}
		delete(byDenom, denom)
		if fixed := map[string]uint64{"atom": 590, "fuel": 2700}[denom]; name.Hops(denom) == 0 && bank.Supply(s, denom) != limb.Of(fixed) {
			w.t.Fatal("a supply changed", denom)
		}
	}
	if len(byDenom) > 0 {
		w.t.Fatal("balances without a supply", byDenom)
	}
}

// covered: P1, reckoned here out of the states alone.
func (w *watch) covered(on int) {
	from, to := w.states[on], w.states[1-on]
	for _, id := range []string{"chan-0", "chan-1"} {
		out := onItsWay(from, to, id)
		back := onItsWay(to, from, id)
		denoms := map[string]bool{}
		for _, x := range from.Pairs("bal/" + transfer.Escrow(id) + "/") {
			denoms[strings.TrimPrefix(x.Key, "bal/"+transfer.Escrow(id)+"/")] = true
		}
		for d := range out {
			denoms[d] = true
		}
		for _, x := range to.Pairs("sup/transfer/" + id + "/") {
			denoms[strings.TrimPrefix(x.Key, "sup/transfer/"+id+"/")] = true
		}
		for d := range denoms {
			if hop, _, ok := name.Hop(d); ok && hop == id {
				continue
			}
			over, _ := name.Over(id, d)
			held := bank.Bal(from, transfer.Escrow(id), d)
			owed := sum([]api.U{sum(out[d]), sum(back[over]), bank.Supply(to, over)})
			if limb.Cmp(held, owed) < 0 {
				w.t.Fatal("not covered", on, id, d, held, owed)
			}
		}
	}
}

// onItsWay: what is on its way from a channel, by its denomination.
func onItsWay(from, to *store.Store, id string) map[string][]api.U {
	l := map[string][]api.U{}
	for _, x := range from.Pairs("ibc/sent/" + id + "/") {
		p, _ := packet.Parse(x.Value)
		d, e := transfer.Parse(p.Data)
		told, _ := to.Get(packet.Told(p.Dst, p.Seq))
		if e == api.OK && (len(told) == 0 || told[0] != 1) {
			l[d.Denom] = append(l[d.Denom], d.Amt)
		}
	}
	return l
}

// owners: P3: whose balances are less, signed a transaction that was taken.
func (w *watch) owners(on int, before *store.Store, signed map[string]bool) {
	for _, x := range before.Pairs("bal/") {
		addr, denom, _ := strings.Cut(x.Key[4:], "/")
		less := limb.Cmp(bank.Bal(w.states[on], addr, denom), bank.Bal(before, addr, denom)) < 0
		if less && !chain.Own(addr) && !signed[addr] {
			w.t.Fatal("less without a signature", addr, denom)
		}
	}
}

// quotas: P4: what comes in within a window is never above the quota.
func (w *watch) quotas(on int, before *store.Store, height uint64) {
	l, ok := transfer.GetLimit(w.states[on], "chan-0", "transfer/chan-0/atom")
	if !ok || limb.Cmp(l.Used, limb.Of(rig.Quota)) > 0 {
		w.t.Fatal("quota", l)
	}
	if w.all { // what came in isn't to be found at the other end
		return
	}
	for _, x := range w.states[on].Pairs("ibc/told/chan-0/") {
		if _, old := before.Get(x.Key); old || x.Value[0] != 1 {
			continue
		}
		// the packet is on its way still at the other end, as the sender's chain has it
		b, _ := w.states[1-on].Get(strings.Replace(x.Key, "told", "sent", 1))
		p, _ := packet.Parse(b)
		d, _ := transfer.Parse(p.Data)
		if d.Denom == "atom" {
			w.inflow[on] = append(w.inflow[on], arrival{height, d.Amt})
		}
	}
	var within []api.U
	for _, a := range w.inflow[on] {
		if a.height >= l.Start {
			within = append(within, a.amt)
		}
	}
	if sum(within) != l.Used {
		w.t.Fatal("what came in", sum(within), l)
	}
}

// once: P5: receipts stay, answers never change, what has ended never comes back, ordered numbers rise.
func (w *watch) once(on int, before *store.Store) {
	now := w.states[on]
	for _, part := range []string{"ibc/receipt/", "ibc/ack/", "ibc/told/"} {
		for _, x := range before.Pairs(part) {
			if b, ok := now.Get(x.Key); !ok || !bytes.Equal(b, x.Value) {
				w.t.Fatal("changed", x.Key)
			}
		}
	}
	for _, x := range now.Pairs("ibc/commit/") {
		if _, old := before.Get(x.Key); old {
			continue
		}
		w.seen[string(rune('0'+on))+x.Key]++
		if w.seen[string(rune('0'+on))+x.Key] > 1 {
			w.t.Fatal("sent twice", x.Key)
		}
	}
	for _, part := range []string{"ibc/next/", "ibc/recv/", "ibc/acked/"} {
		for _, x := range before.Pairs(part) {
			if b, _ := now.Get(x.Key); bytes.Compare(b, x.Value) < 0 {
				w.t.Fatal("a number went back", x.Key)
			}
		}
	}
	for _, x := range before.Pairs("ibc/chan/") {
		id := strings.TrimPrefix(x.Key, "ibc/chan/")
		a, _ := chans.Get(before, id)
		b, _ := chans.Get(now, id)
		if b.State < a.State || a.Ordered != b.Ordered || a.Port != b.Port || a.CPort != b.CPort || a.Conn != b.Conn || a.Version != b.Version || a.CChan != "" && a.CChan != b.CChan {
			w.t.Fatal("a channel changed", a, b)
		}
	}
}

// exported: P6: a chain that is exported and begun anew has the same state and root.
func (w *watch) exported(on int) {
	c := w.p.W.Chain(on)
	again, e := chain.Start(disk.New(), c.Export())
	if e != api.OK || !bytes.Equal(again.Head().Root, c.Head().Root) || !reflect.DeepEqual(again.Pairs(""), c.Pairs("")) {
		w.t.Fatal("exported", e)
	}
}

// step does a step of the play, and looks at all that may have changed.
func (w *watch) step(x api.WStep) []api.Result {
	on := x.On
	off := w.p.W.Chain(on).Off()
	l, e := w.p.W.Do(x)
	if x.Kind == 1 && e == api.OK {
		w.waits[on] = append(w.waits[on], x.Tx)
	}
	signed := map[string]bool{}
	c := w.p.W.Chain(on)
	if e == api.OK && (x.Kind == 2 || x.Kind == 4) {
		for i, b := range w.waits[on] {
			// of a block that was under way as the power went, the results aren't known
			if t, e := tx.Decode(b); e == api.OK && (x.Kind == 4 || taken(l[i])) {
				signed[t.Signer] = true
			}
		}
		w.waits[on], w.p.Signed[on] = nil, map[string]int{}
	}
	if x.Kind == 2 && e == api.ErrDown && !off && !c.Off() {
		w.t.Fatal("the chain isn't off")
	}
	before := w.states[on]
	w.states[on] = rig.State(c)
	w.owners(on, before, signed)
	w.once(on, before)
	w.quotas(on, before, c.Head().Height)
	for i := range 2 {
		w.money(i)
		if !w.all {
			w.covered(i)
		}
	}
	return l
}

// taken: has the transaction of that result cost its signer a number?
func taken(r api.Result) bool {
	return r.Err == api.OK || r.Msg > 0 || r.Err == api.ErrGas
}

func play(t *testing.T, seed int64, steps int, all bool) map[api.Errno]int {
	r := rand.New(rand.NewSource(seed))
	p := rig.NewPlay(r.Intn, all)
	w := &watch{t: t, p: p, all: all, seen: map[string]int{}}
	for on := range 2 {
		w.states[on] = rig.State(p.W.Chain(on))
	}
	happened := map[api.Errno]int{}
	for i := range steps {
		for _, x := range w.step(p.Step()) {
			happened[x.Err]++
		}
		for on := range 2 {
			if p.W.Chain(on).Off() {
				w.step(p.Back(on))
			}
			if i%100 == 99 {
				w.exported(on)
			}
		}
	}
	t.Log(happened)
	return happened
}

// Less than a third of each set is faulty: all the promises hold.
func TestPromisesOfTheWhole(t *testing.T) {
	for seed := range int64(4) {
		if happened := play(t, 100+seed, 700, false); happened[api.OK] < 50 || len(happened) < 8 {
			t.Error("little happened", happened)
		}
	}
}

// All are faulty: what is held doesn't cover what is there any more, but the other promises hold.
func TestPromisesWhoeverIsFaulty(t *testing.T) {
	for seed := range int64(4) {
		if happened := play(t, 200+seed, 300, true); happened[api.OK] < 30 {
			t.Error("little happened", happened)
		}
	}
}
