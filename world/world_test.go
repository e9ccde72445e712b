package world_test

import (
	"bytes"
	"reflect"
	"slices"
	"strings"
	"testing"

	"isthmus/api"
	"isthmus/bank"
	"isthmus/limb"
	"isthmus/rig"
	"isthmus/vals"
	"isthmus/world"
)

func want(t *testing.T, got, e api.Errno) {
	t.Helper()
	if got != e {
		t.Error(got, "instead of", e)
	}
}

func begin(r *rig.Rig, name string) api.Genesis {
	return r.Genesis(name, r.Set("a", "b", "c", "d"), []string{"ann"}, rig.Coin{Who: "ann", Denom: "atom", Amt: 50})
}

func made(t *testing.T, r *rig.Rig) *world.World {
	t.Helper()
	w, e := world.New(begin(r, "one"), begin(r, "two"), []string{"d"})
	if e != api.OK {
		t.Fatal(e)
	}
	return w
}

func do(t *testing.T, w *world.World, x api.WStep, e api.Errno) []api.Result {
	t.Helper()
	l, got := w.Do(x)
	want(t, got, e)
	if e != api.OK && len(l) != 0 {
		t.Error(l)
	}
	return l
}

func TestNew(t *testing.T) {
	r := rig.New()
	one, two := begin(r, "one"), begin(r, "two")
	bad := one
	bad.Vals = nil
	amt := limb.Bytes(limb.Of(1))
	hops := rig.With(rig.With(one, "bal/ann/transfer/chan-0/x", amt), "sup/transfer/chan-0/x", amt)
	cases := []struct {
		a, b api.Genesis
		want api.Errno
	}{
		{one, two, api.OK},
		{bad, one, api.ErrChain},
		{bad, two, api.ErrVals},
		{two, bad, api.ErrVals},
		{rig.With(one, "ibc/x", nil), misnamed(two), api.ErrGenesis},
		{misnamed(two), rig.With(one, "ibc/x", nil), api.ErrName},
		{one, rig.With(two, "ibc/x", nil), api.ErrGenesis},
		{one, rig.With(two, "ica/x", nil), api.ErrGenesis},
		{rig.With(one, "fee/x", nil), two, api.ErrGenesis},
		{rig.With(one, "limit/x", nil), two, api.OK},
		{hops, two, api.ErrGenesis},
		{rig.With(one, "x/y", nil), two, api.ErrGenesis},
		{rig.With(one, "", nil), two, api.ErrKey},
	}
	for i, c := range cases {
		w, e := world.New(c.a, c.b, nil)
		if e != c.want || (w != nil) != (e == api.OK) {
			t.Error(i, e)
		}
	}
	w := made(t, r)
	for i, name := range []string{"one", "two"} {
		h := w.Chain(i).Head()
		if h.Chain != name || h.Height != 1 || w.Waits(i) != 0 || !reflect.DeepEqual(w.Heads(i), []api.Header{h}) {
			t.Error(i, h)
		}
	}
}

func misnamed(g api.Genesis) api.Genesis {
	g.Chain = "Two"
	return g
}

func TestDoRefuses(t *testing.T) {
	r := rig.New()
	w := made(t, r)
	for _, on := range []int{-1, 2, 1 << 40} {
		do(t, w, api.WStep{Kind: 99, On: on}, api.ErrPlace)
		if w.Chain(on) != nil || len(w.Heads(on)) != 0 || w.Waits(on) != 0 {
			t.Error(on)
		}
	}
	for _, kind := range []int{0, 5, -1, 1 << 40} {
		do(t, w, api.WStep{Kind: kind}, api.ErrKind)
	}
}

func TestBlocks(t *testing.T) {
	r := rig.New()
	w := made(t, r)
	for i := range 40 {
		if l := do(t, w, api.WStep{Kind: 1, On: 1, Tx: []byte{byte(i)}}, api.OK); len(l) != 0 {
			t.Error(l)
		}
	}
	do(t, w, api.WStep{Kind: 1, On: 0, Tx: r.Tx(w.Chain(0), "ann", 0, 0, api.Msg{Kind: 1, To: "bob", Denom: "atom", Amt: limb.Of(4)})}, api.OK)
	do(t, w, api.WStep{Kind: 1, On: 0, Tx: r.Tx(w.Chain(0), "ann", 1, 0, api.Msg{Kind: 1, To: "bob", Denom: "atom", Amt: limb.Of(60)})}, api.OK)
	if w.Waits(0) != 2 || w.Waits(1) != 40 {
		t.Error(w.Waits(0), w.Waits(1))
	}
	do(t, w, api.WStep{Kind: 2, On: 1, Time: 0}, api.ErrTime)
	do(t, w, api.WStep{Kind: 2, On: 1, Time: 1<<64 - 1}, api.ErrTime) // it wraps round
	do(t, w, api.WStep{Kind: 2, On: 1, Time: 1, Set: []api.Val{{Name: "a"}}}, api.ErrVals)
	if w.Waits(1) != 40 || len(w.Heads(1)) != 1 {
		t.Error("a block that is refused")
	}
	if l := do(t, w, api.WStep{Kind: 2, On: 1, Time: 5}, api.OK); len(l) != 32 || w.Waits(1) != 8 {
		t.Error(len(l), w.Waits(1))
	}
	other := r.Set("x", "y")
	if l := do(t, w, api.WStep{Kind: 2, On: 1, Time: 7, Set: other}, api.OK); len(l) != 8 || w.Waits(1) != 0 {
		t.Error(len(l), w.Waits(1))
	}
	if l := do(t, w, api.WStep{Kind: 2, On: 0, Time: 1<<64 - 101}, api.OK); !slices.Equal(l, []api.Result{{}, {Err: api.ErrFunds, Msg: 1}}) {
		t.Error(l)
	}
	if l := do(t, w, api.WStep{Kind: 2, On: 1, Time: 1}, api.OK); len(l) != 0 {
		t.Error(l)
	}
	h := w.Heads(1)
	four := vals.Hash(begin(r, "x").Vals)
	if len(h) != 4 || h[1].Time != 105 || h[2].Time != 112 || h[3].Time != 113 || h[3].Height != 4 || !reflect.DeepEqual(h[3], w.Chain(1).Head()) {
		t.Error(h)
	}
	// the set of the step is the one behind the next block; where there is none it stays
	for i, next := range [][]byte{four, four, vals.Hash(other), vals.Hash(other)} {
		if !bytes.Equal(h[i].Next, next) || i > 0 && !bytes.Equal(h[i].Vals, h[i-1].Next) {
			t.Error(i)
		}
	}
	if got := w.Chain(0).Head().Time; got != 1<<64-1 {
		t.Error(got)
	}
}

func TestPower(t *testing.T) {
	r := rig.New()
	w := made(t, r)
	send := r.Tx(w.Chain(0), "ann", 0, 0, api.Msg{Kind: 1, To: "bob", Denom: "atom", Amt: limb.Of(4)})
	for n := 1; n <= 4; n++ {
		w := made(t, r)
		do(t, w, api.WStep{Kind: 1, Tx: send}, api.OK)
		do(t, w, api.WStep{Kind: 3, N: n}, api.OK)
		do(t, w, api.WStep{Kind: 2, Time: 1}, api.ErrDown)
		if !w.Chain(0).Off() || w.Waits(0) != 1 || len(w.Heads(0)) != 1 || w.Chain(1).Off() {
			t.Error(n, w.Waits(0))
		}
		do(t, w, api.WStep{Kind: 2, Time: 1}, api.ErrDown)
		do(t, w, api.WStep{Kind: 1, Tx: send}, api.OK) // it may come, and is lost
		keep := make([]bool, 100000)
		for i := range keep {
			keep[i] = true
		}
		if l := do(t, w, api.WStep{Kind: 4, Keep: keep}, api.OK); len(l) != 0 {
			t.Error(l)
		}
		heads := 1
		if n >= 3 { // the mark of the record is on its way
			heads = 2
		}
		if w.Chain(0).Off() || w.Waits(0) != 0 || len(w.Heads(0)) != heads || w.Chain(0).Head().Height != uint64(heads) || !reflect.DeepEqual(w.Heads(0)[heads-1], w.Chain(0).Head()) {
			t.Error(n, len(w.Heads(0)))
		}
		do(t, w, api.WStep{Kind: 2, Time: 1}, api.OK)
		if len(w.Heads(0)) != heads+1 {
			t.Error(n)
		}
	}
	// nothing that isn't safe is kept
	do(t, w, api.WStep{Kind: 1, Tx: send}, api.OK)
	do(t, w, api.WStep{Kind: 3, N: 3}, api.OK)
	do(t, w, api.WStep{Kind: 2, Time: 1}, api.ErrDown)
	do(t, w, api.WStep{Kind: 4}, api.OK)
	if len(w.Heads(0)) != 1 || w.Chain(0).Head().Height != 1 {
		t.Error("heads")
	}
	// with the power on: what waits is lost, the chain is as it was
	do(t, w, api.WStep{Kind: 1, Tx: send}, api.OK)
	do(t, w, api.WStep{Kind: 2, Time: 1}, api.OK)
	do(t, w, api.WStep{Kind: 1, Tx: send}, api.OK)
	do(t, w, api.WStep{Kind: 3, N: 1}, api.OK)
	before := w.Chain(0).Head()
	do(t, w, api.WStep{Kind: 4}, api.OK)
	if w.Waits(0) != 0 || !reflect.DeepEqual(w.Chain(0).Head(), before) || len(w.Heads(0)) != 2 {
		t.Error("a crash with the power on")
	}
	do(t, w, api.WStep{Kind: 2, Time: 1}, api.OK) // what was armed went with the old disk
}

func TestWhatMayCome(t *testing.T) {
	r := rig.New()
	w := made(t, r)
	for on := range 2 {
		do(t, w, api.WStep{Kind: 2, On: on, Time: 1}, api.OK)
	}
	real := w.Heads(1)[1]
	own := w.Heads(0)[1]
	fake := real
	fake.Time++
	all := []string{"a", "b", "c"}
	turned := func(f func(h *api.Header)) api.Header {
		h := real
		f(&h)
		return h
	}
	update := func(h api.Header, votes ...string) api.Msg {
		return api.Msg{Kind: api.ClientUpdate, Header: h, Votes: votes}
	}
	misbehave := func(h, other api.Header, votes, more []string) api.Msg {
		return api.Msg{Kind: api.Misbehave, Header: h, Other: other, Votes: votes, OtherVotes: more}
	}
	cases := []struct {
		m   api.Msg
		may bool
	}{
		{api.Msg{Kind: api.ClientCreate, Header: real}, true},
		{api.Msg{Kind: api.ClientCreate, Header: w.Heads(1)[0]}, true},
		{api.Msg{Kind: api.ClientCreate, Header: own}, false},
		{api.Msg{Kind: api.ClientCreate, Header: fake}, false},
		{api.Msg{Kind: api.ClientCreate}, false},
		{update(real, all...), true},
		{update(own, all...), true},
		{update(fake, all...), false},
		{update(fake, "d"), true},
		{update(fake, "d", "d"), true},
		{update(fake, "d", "a"), false},
		{update(fake, "D"), false},
		{update(fake), true},
		{update(turned(func(h *api.Header) { h.Chain = "six" }), "a"), false},
		{update(turned(func(h *api.Header) { h.Height = 1 }), "a"), false},
		{update(turned(func(h *api.Header) { h.Root = h.Vals }), "a"), false},
		{update(turned(func(h *api.Header) { h.Vals = h.Root }), "a"), false},
		{update(turned(func(h *api.Header) { h.Next = h.Root }), "a"), false},
		{misbehave(real, own, all, all), true},
		{misbehave(real, fake, all, all), false},
		{misbehave(fake, real, all, all), false},
		{misbehave(fake, fake, []string{"d"}, nil), true},
		{misbehave(real, fake, all, []string{"d"}), true},
		{misbehave(fake, real, []string{"d"}, all), true},
		{api.Msg{Kind: api.Send, Header: fake, Votes: all}, true},
		{api.Msg{Kind: 99, Header: fake, Votes: all, Other: fake, OtherVotes: all}, true},
		{api.Msg{Kind: api.ClientUpdate, Header: real, Votes: all, Other: fake, OtherVotes: all}, true},
	}
	for i, c := range cases {
		e := api.OK
		if !c.may {
			e = api.ErrTrust
		}
		for _, msgs := range [][]api.Msg{{c.m}, {{Kind: api.Send}, c.m}, {c.m, {Kind: api.Send}}} {
			before := w.Waits(0)
			b := r.Tx(w.Chain(0), "ann", 0, 0, msgs...)
			if _, got := w.Do(api.WStep{Kind: 1, Tx: b}); got != e || w.Waits(0)-before != map[bool]int{true: 1, false: 0}[c.may] {
				t.Error(i, got)
			}
			do(t, w, api.WStep{Kind: 1, Tx: append(b, 0)}, api.OK) // no transaction any more
			do(t, w, api.WStep{Kind: 1, Tx: b[:len(b)-1]}, api.OK)
		}
	}
	do(t, w, api.WStep{Kind: 1, On: 1, Tx: r.Tx(w.Chain(0), "ann", 0, 0, api.Msg{Kind: api.ClientCreate, Header: own})}, api.OK)
	do(t, w, api.WStep{Kind: 1, On: 1, Tx: r.Tx(w.Chain(0), "ann", 0, 0, api.Msg{Kind: api.ClientCreate, Header: real})}, api.ErrTrust)
}

// A block that is made of the chain itself is one of its blocks, too.
func TestBlocksPastDo(t *testing.T) {
	r := rig.New()
	w := made(t, r)
	c := w.Chain(1)
	c.Block(105, nil, c.Set())
	b := r.Tx(w.Chain(0), "ann", 0, 0, api.Msg{Kind: api.ClientCreate, Header: c.Head()})
	do(t, w, api.WStep{Kind: 1, Tx: b}, api.OK)
	c.Block(106, nil, c.Set())
	if h := w.Heads(1); len(h) != 3 || !reflect.DeepEqual(h[2], c.Head()) {
		t.Error(h)
	}
}

func TestMemoryIsItsOwn(t *testing.T) {
	r := rig.New()
	faulty := []string{"d"}
	w, _ := world.New(begin(r, "one"), begin(r, "two"), faulty)
	faulty[0] = "a"
	fake := api.Header{Chain: "two"}
	do(t, w, api.WStep{Kind: 1, Tx: r.Tx(w.Chain(0), "ann", 0, 0, api.Msg{Kind: api.ClientUpdate, Header: fake, Votes: []string{"a"}})}, api.ErrTrust)
	b := r.Tx(w.Chain(0), "ann", 0, 0)
	do(t, w, api.WStep{Kind: 1, Tx: b}, api.OK)
	clear(b)
	if l := do(t, w, api.WStep{Kind: 2, Time: 1}, api.OK); !slices.Equal(l, []api.Result{{}}) {
		t.Error(l)
	}
	h := w.Heads(0)
	before := w.Heads(0)
	h[1].Chain = "x"
	for _, b := range [][]byte{h[0].Root, h[0].Vals, h[0].Next} {
		b[0]++
		_ = append(b, 1, 2, 3)
	}
	if !reflect.DeepEqual(before, w.Heads(0)) || reflect.DeepEqual(h[0], before[0]) || bytes.Equal(h[0].Vals, before[0].Vals) || bytes.Equal(h[0].Next, before[0].Next) {
		t.Error("shared")
	}
}

func TestNilAndForeignWorlds(t *testing.T) {
	var w *world.World
	do(t, w, api.WStep{On: 7}, api.ErrNil)
	if w.Chain(0) != nil || len(w.Heads(1)) != 0 || w.Waits(0) != 0 {
		t.Error("nil world")
	}
	w = new(world.World)
	for kind := range 6 {
		w.Do(api.WStep{Kind: kind, Tx: []byte{1}, Time: 1, N: 2, Keep: []bool{true}})
	}
	w.Heads(0)
	w.Chain(1)
}

// The document's examples 6 and 7 of what a client is told.
func TestForgedHeaders(t *testing.T) {
	p := rig.NewPlay(func(int) int { return 0 }, false)
	w := p.W
	h := w.Heads(1)[len(w.Heads(1))-1]
	state := rig.State(w.Chain(0))
	x := p.Rig.Update("client-0", w.Heads(1)[0], h)
	x.Header.Root = vals.Hash(nil)
	x.Votes = []string{"a", "b", "c"}
	do(t, w, api.WStep{Kind: 1, Tx: p.Rig.Tx(w.Chain(0), "ros", 0, 0, x)}, api.ErrTrust)
	x.Votes = []string{"d"}
	do(t, w, api.WStep{Kind: 1, Tx: p.Rig.Tx(w.Chain(0), "ros", 0, 0, x)}, api.OK)
	if l := do(t, w, p.Block(0), api.OK); len(l) != 1 || l[0].Err == api.OK || l[0].Msg != 1 {
		t.Error(l)
	}
	if bank.Bal(state, "ros", "fuel") != bank.Bal(rig.State(w.Chain(0)), "ros", "fuel") {
		t.Error("no fee was asked for")
	}
	if c, _ := w.Chain(0).Get("ibc/client/client-0"); c[len(c)-1] != 0 {
		t.Error("frozen")
	}
	if !strings.HasPrefix(h.Chain, "two") {
		t.Error(h.Chain)
	}
}
