package chain_test

import (
	"bytes"
	"reflect"
	"slices"
	"strconv"
	"strings"
	"testing"

	"isthmus/api"
	"isthmus/auth"
	"isthmus/bank"
	"isthmus/chain"
	"isthmus/chans"
	"isthmus/disk"
	"isthmus/limb"
	"isthmus/merkle"
	"isthmus/node"
	"isthmus/rig"
	"isthmus/store"
	"isthmus/tx"
	"isthmus/vals"
	"isthmus/wire"
)

func of(n uint64) api.U { return limb.Of(n) }

func want(t *testing.T, got, e api.Errno) {
	t.Helper()
	if got != e {
		t.Error(got, "instead of", e)
	}
}

// two chains, one and two, on their disks, with a clock for both.
type two struct {
	*rig.Link
	t     *testing.T
	c     [2]*chain.Chain
	d     [2]*disk.Disk
	clock uint64
}

func begin(r *rig.Rig, name string) api.Genesis {
	g := r.Genesis(name, r.Set("a", "b", "c", "d"), []string{"ann", "bob", "rob", "ros"},
		rig.Coin{Who: "ann", Denom: "fuel", Amt: 1000}, rig.Coin{Who: "rob", Denom: "fuel", Amt: 1000}, rig.Coin{Who: "ann", Denom: "atom", Amt: 50})
	return g
}

func start(t *testing.T, g api.Genesis) (*chain.Chain, *disk.Disk) {
	t.Helper()
	d := disk.New()
	c, e := chain.Start(d, g)
	if e != api.OK {
		t.Fatal(e)
	}
	return c, d
}

func newTwo(t *testing.T) *two {
	t.Helper()
	x := &two{t: t, clock: 100}
	r := rig.New()
	x.c[0], x.d[0] = start(t, begin(r, "one"))
	x.c[1], x.d[1] = start(t, begin(r, "two"))
	x.Link = &rig.Link{Rig: r, By: "rob", Chain: func(i int) *chain.Chain { return x.c[i] }, Do: x.must}
	return x
}

// block: a block with one transaction; its result.
func (x *two) block(on int, who string, msgs ...api.Msg) api.Result {
	x.t.Helper()
	x.clock++
	var txs [][]byte
	if m, worn := x.Rig.Worn(x.c[on], who); worn {
		x.clock++
		if _, e := x.c[on].Block(x.clock-1, [][]byte{x.Rig.Tx(x.c[on], who, 0, 0, m)}, x.c[on].Set()); e != api.OK {
			x.t.Fatal(e)
		}
	}
	txs = append(txs, x.Rig.Tx(x.c[on], who, 0, 1, msgs...))
	l, e := x.c[on].Block(x.clock, txs, x.c[on].Set())
	if e != api.OK || len(l) != 1 {
		x.t.Fatal(e, l)
	}
	return l[0]
}

func (x *two) must(on int, who string, msgs ...api.Msg) {
	x.t.Helper()
	if r := x.block(on, who, msgs...); r != (api.Result{}) {
		x.t.Fatal(r)
	}
}

// bring: a message to chain on about a packet, with its proof; chain on makes a block with the news that it takes.
func (x *two) bring(on int, key string, m api.Msg) api.Msg {
	if x.c[1-on].Head().Height == x.Known[on].Height {
		x.must(1-on, x.By)
	}
	x.must(on, x.By, x.Tell(on))
	m.Height, m.Proof = x.Known[on].Height, x.Proof(1-on, key)
	return m
}

func (x *two) bal(on int, who, denom string) api.U {
	return bank.Bal(rig.State(x.c[on]), who, denom)
}

func (x *two) sent(on int, id string) []api.Packet {
	return sentOf(x.c[on], id)
}

func joined(t *testing.T) *two {
	x := newTwo(t)
	x.Connect(1000)
	x.Open("rob", "chan-0", "chan-0", "transfer", "transfer", false, "ics20")
	return x
}

func TestOwn(t *testing.T) {
	for _, s := range []string{"fees", "feepool", "escrow.", "escrow.chan-0", "ica.", "ica.conn-0.ann"} {
		if !chain.Own(s) {
			t.Error(s)
		}
	}
	for _, s := range []string{"", "fee", "feesx", "escrow", "ica", "ann", "Escrow.x", "xica.", "feepools"} {
		if chain.Own(s) {
			t.Error(s)
		}
	}
}

func TestRight(t *testing.T) {
	r := rig.New()
	good := begin(r, "one")
	acc, _ := rig.State(first(start(t, good))).Get("acc/ann")
	one := limb.Bytes(of(1))
	most := bytes.Repeat([]byte{255}, 32)
	cases := []struct {
		what string
		turn func(g api.Genesis) api.Genesis
		want api.Errno
	}{
		{"itself", func(g api.Genesis) api.Genesis { return g }, api.OK},
		{"nothing", func(g api.Genesis) api.Genesis { g.Pairs = nil; return g }, api.OK},
		{"name", func(g api.Genesis) api.Genesis { g.Chain, g.Vals = "One", nil; return g }, api.ErrName},
		{"vals", func(g api.Genesis) api.Genesis { g.Vals, g.Pairs = nil, []api.Pair{{}}; return g }, api.ErrVals},
		{"next", func(g api.Genesis) api.Genesis { g.Next, g.Pairs = g.Next[:0], []api.Pair{{}}; return g }, api.ErrVals},
		{"no key", func(g api.Genesis) api.Genesis { g.Pairs = []api.Pair{{Key: "x/y"}, {Key: ""}}; return g }, api.ErrKey},
		{"order", func(g api.Genesis) api.Genesis {
			g.Pairs = []api.Pair{{Key: "ibc/b"}, {Key: "ibc/a"}}
			return g
		}, api.ErrKey},
		{"another place", func(g api.Genesis) api.Genesis { return rig.With(g, "x/y", nil) }, api.ErrGenesis},
		{"no place", func(g api.Genesis) api.Genesis { return rig.With(g, "ibc", nil) }, api.ErrGenesis},
		{"nothing ahead", func(g api.Genesis) api.Genesis { return rig.With(g, "/ibc", nil) }, api.ErrGenesis},
		{"more ahead", func(g api.Genesis) api.Genesis { return rig.With(g, "ibcx/a", nil) }, api.ErrGenesis},
		{"ibc", func(g api.Genesis) api.Genesis { return rig.With(g, "ibc/", []byte{1}) }, api.OK},
		{"ica", func(g api.Genesis) api.Genesis { return rig.With(g, "ica/x/y", []byte{1}) }, api.OK},
		{"fee", func(g api.Genesis) api.Genesis { return rig.With(g, "fee/x/y", []byte{1}) }, api.OK},
		{"limit", func(g api.Genesis) api.Genesis { return rig.With(g, "limit/x", []byte{1}) }, api.OK},
		{"an account", func(g api.Genesis) api.Genesis { return rig.With(g, "acc/zed", acc) }, api.OK},
		{"an account of no name", func(g api.Genesis) api.Genesis { return rig.With(g, "acc/Zed", acc) }, api.ErrGenesis},
		{"an account of a name and more", func(g api.Genesis) api.Genesis { return rig.With(g, "acc/zed/x", acc) }, api.ErrGenesis},
		{"an account of nobody", func(g api.Genesis) api.Genesis { return rig.With(g, "acc/", acc) }, api.ErrGenesis},
		{"an account of the fees", func(g api.Genesis) api.Genesis { return rig.With(g, "acc/fees", acc) }, api.ErrGenesis},
		{"an account of the pool", func(g api.Genesis) api.Genesis { return rig.With(g, "acc/feepool", acc) }, api.ErrGenesis},
		{"an account of an escrow", func(g api.Genesis) api.Genesis { return rig.With(g, "acc/escrow.chan-0", acc) }, api.ErrGenesis},
		{"an account that is led", func(g api.Genesis) api.Genesis { return rig.With(g, "acc/ica.conn-0.ann", acc) }, api.ErrGenesis},
		{"an account of another form", func(g api.Genesis) api.Genesis { return rig.With(g, "acc/zed", acc[1:]) }, api.ErrGenesis},
		{"a balance without a supply", func(g api.Genesis) api.Genesis { return rig.With(g, "bal/zed/gold", one) }, api.ErrGenesis},
		{"a supply without a balance", func(g api.Genesis) api.Genesis { return rig.With(g, "sup/gold", one) }, api.ErrGenesis},
		{"a balance more", func(g api.Genesis) api.Genesis { return rig.With(g, "bal/zed/atom", one) }, api.ErrGenesis},
		{"both", func(g api.Genesis) api.Genesis {
			return rig.With(rig.With(g, "bal/zed/gold", one), "sup/gold", one)
		}, api.OK},
		{"both, with hops", func(g api.Genesis) api.Genesis {
			return rig.With(rig.With(g, "bal/escrow.x/transfer/chan-0/gold", one), "sup/transfer/chan-0/gold", one)
		}, api.OK},
		{"a supply of another name", func(g api.Genesis) api.Genesis {
			return rig.With(rig.With(g, "bal/zed/gold", one), "sup/silver", one)
		}, api.ErrGenesis},
		{"both, of 31 bytes", func(g api.Genesis) api.Genesis {
			return rig.With(rig.With(g, "bal/zed/gold", one[1:]), "sup/gold", one[1:])
		}, api.ErrGenesis},
		{"a supply of 33 bytes", func(g api.Genesis) api.Genesis {
			return rig.With(rig.With(g, "bal/zed/gold", one), "sup/gold", append([]byte{0}, one...))
		}, api.ErrGenesis},
		{"both, of 0", func(g api.Genesis) api.Genesis {
			return rig.With(rig.With(g, "bal/zed/gold", make([]byte, 32)), "sup/gold", make([]byte, 32))
		}, api.ErrGenesis},
		{"a balance of 0", func(g api.Genesis) api.Genesis { return rig.With(g, "bal/zed/atom", make([]byte, 32)) }, api.ErrGenesis},
		{"a supply of 0", func(g api.Genesis) api.Genesis { return rig.With(g, "sup/gold", make([]byte, 32)) }, api.ErrGenesis},
		{"a balance of no name", func(g api.Genesis) api.Genesis {
			return rig.With(rig.With(g, "bal/Zed/gold", one), "sup/gold", one)
		}, api.ErrGenesis},
		{"a balance of no denomination", func(g api.Genesis) api.Genesis { return rig.With(g, "bal/zed", one) }, api.ErrGenesis},
		{"a denomination that is none", func(g api.Genesis) api.Genesis {
			return rig.With(rig.With(g, "bal/zed/x/y", one), "sup/x/y", one)
		}, api.ErrGenesis},
		{"more than 2^256", func(g api.Genesis) api.Genesis {
			return rig.With(rig.With(rig.With(g, "bal/zed/gold", most), "bal/zoe/gold", one), "sup/gold", make([]byte, 32))
		}, api.ErrGenesis},
	}
	for _, c := range cases {
		g := c.turn(good)
		if e := chain.Right(g); e != c.want {
			t.Error(c.what, e)
		}
		d := disk.New()
		x, e := chain.Start(d, g)
		if e != c.want || (x != nil) != (e == api.OK) || e != api.OK && len(d.Crash(nil)) != 0 {
			t.Error(c.what, "Start", e)
		}
	}
}

func first(c *chain.Chain, _ *disk.Disk) *chain.Chain { return c }

// recordOf: a block's record, as the chapter says it.
func recordOf(h api.Header, next []api.Val, pairs []api.Pair) []byte {
	b := wire.B(wire.B(nil, vals.Header(h)), vals.Bytes(next))
	b = wire.N(b, uint64(len(pairs)))
	for _, p := range pairs {
		b = wire.B(wire.T(b, p.Key), p.Value)
	}
	return b
}

func records(t *testing.T, d *disk.Disk) [][]byte {
	t.Helper()
	copied, _ := disk.Load(d.Crash(nil))
	_, l, e := node.Open(copied)
	if e != api.OK {
		t.Fatal(e)
	}
	return l
}

func TestStart(t *testing.T) {
	r := rig.New()
	g := begin(r, "one")
	g.Next = r.Set("a", "b", "e")
	if c, e := chain.Start(nil, api.Genesis{}); c != nil || e != api.ErrNil {
		t.Error(e)
	}
	c, d := start(t, g)
	root, _ := merkle.Root(g.Pairs)
	h := api.Header{Chain: "one", Height: 1, Time: 100, Root: root, Vals: vals.Hash(g.Vals), Next: vals.Hash(g.Next)}
	if !reflect.DeepEqual(c.Head(), h) || !reflect.DeepEqual(c.Set(), g.Next) || c.Off() {
		t.Error(c.Head(), c.Set())
	}
	if l := records(t, d); len(l) != 1 || !bytes.Equal(l[0], recordOf(h, g.Next, g.Pairs)) || d.Waiting() != 0 {
		t.Error("record")
	}
	if c, e := chain.Start(d, g); c != nil || e != api.ErrState {
		t.Error(e)
	}
	g.Chain = ""
	if c, e := chain.Start(d, g); c != nil || e != api.ErrName {
		t.Error(e)
	}
	g.Chain = "one"
	lost, _ := disk.Load([]api.File{{Name: "marks", Data: []byte{1}}})
	if c, e := chain.Start(lost, g); c != nil || e != api.ErrLost {
		t.Error(e)
	}
	var many []api.File
	for i := range api.MaxFiles {
		many = append(many, api.File{Name: strconv.Itoa(i)})
	}
	full, _ := disk.Load(many)
	if c, e := chain.Start(full, g); c != nil || e != api.ErrFile {
		t.Error(e)
	}
	for n := 1; n <= 4; n++ {
		d := disk.New()
		d.Arm(n)
		if c, e := chain.Start(d, g); c != nil || e != api.ErrDown {
			t.Error(n, e)
		}
	}
}

func TestBlock(t *testing.T) {
	r := rig.New()
	g := begin(r, "one")
	g.Next = r.Set("a", "b", "e")
	c, d := start(t, g)
	next := r.Set("x", "y")
	first := r.Tx(c, "ann", 0, 3, api.Msg{Kind: api.Send, To: "bob", Denom: "atom", Amt: of(4)})
	second := r.Tx(c, "ann", 1, 0, api.Msg{Kind: api.Send, To: "bob", Denom: "atom", Amt: of(5)}, api.Msg{Kind: api.Send, To: "bob", Denom: "atom", Amt: of(500)})
	garbage := []byte{1, 2, 3}
	txs := [][]byte{first, garbage, first, second}
	l, e := c.Block(105, txs, next)
	if e != api.OK || !slices.Equal(l, []api.Result{{}, {Err: api.ErrShort}, {Err: api.ErrSeq}, {Err: api.ErrFunds, Msg: 2}}) {
		t.Error(l, e)
	}
	s := rig.State(c)
	if bank.Bal(s, "bob", "atom") != of(4) || bank.Bal(s, "ann", "fuel") != of(997) {
		t.Error("balances")
	}
	if a, _ := auth.Get(s, "ann"); a.Seq != 2 {
		t.Error(a)
	}
	root, _ := merkle.Root(c.Pairs(""))
	h := api.Header{Chain: "one", Height: 2, Time: 105, Root: root, Vals: vals.Hash(g.Next), Next: vals.Hash(next)}
	if !reflect.DeepEqual(c.Head(), h) || !reflect.DeepEqual(c.Set(), next) {
		t.Error(c.Head(), c.Set())
	}
	if l := records(t, d); len(l) != 2 || !bytes.Equal(l[1], recordOf(h, next, c.Pairs(""))) {
		t.Error("record")
	}
	before := records(t, d)
	many := make([][]byte, 33)
	for i, x := range []struct {
		time uint64
		txs  [][]byte
		next []api.Val
		want api.Errno
	}{{105, many, nil, api.ErrTime}, {0, many, nil, api.ErrTime}, {106, many, nil, api.ErrMany}, {106, many[1:], nil, api.ErrVals}, {106, nil, []api.Val{{Name: "a"}}, api.ErrVals}} {
		if l, e := c.Block(x.time, x.txs, x.next); e != x.want || len(l) != 0 || c.Off() || !reflect.DeepEqual(c.Head(), h) || len(records(t, d)) != len(before) {
			t.Error(i, e)
		}
	}
	if l, e := c.Block(1<<64-1, many[1:], next); e != api.OK || len(l) != 32 || l[31] != (api.Result{Err: api.ErrShort}) {
		t.Error(l, e)
	}
	if got := c.Head(); got.Height != 3 || !bytes.Equal(got.Vals, h.Next) || !bytes.Equal(got.Root, h.Root) {
		t.Error(got)
	}
}

// The height that a packet's lateness is asked at, and the time, are those of the block that is made.
func TestHeightAndTimeOfDelivery(t *testing.T) {
	for i, c := range []struct {
		height, time uint64 // behind the block that brings it
		result       api.Result
	}{{0, 0, api.Result{Err: api.ErrLate, Msg: 1}}, {1, 1, api.Result{}}, {1, 0, api.Result{Err: api.ErrLate, Msg: 1}}, {0, 1, api.Result{Err: api.ErrLate, Msg: 1}}} {
		x := joined(t)
		// ann's block, one of news, and the one that brings it
		height, time := x.c[1].Head().Height+2, x.clock+3
		x.mustAs(0, "ann", api.Msg{Kind: api.Transfer, Chan: "chan-0", Denom: "atom", Amt: of(1), To: "bob", Height: height + c.height, Time: time + c.time})
		l := x.sent(0, "chan-0")
		p := l[len(l)-1]
		m := x.bring(1, commit(p), api.Msg{Kind: api.Recv, Packet: p})
		x.clock++
		r, e := x.c[1].Block(x.clock, [][]byte{x.Rig.Tx(x.c[1], "bob", 0, 0, m)}, x.c[1].Set())
		if e != api.OK || x.c[1].Head().Height != height || x.clock != time || r[0] != c.result {
			t.Error(i, r, e, height, time, x.clock)
		}
	}
}

func TestDeliver(t *testing.T) {
	r := rig.New()
	c, _ := start(t, begin(r, "one"))
	send := api.Msg{Kind: api.Send, To: "bob", Denom: "atom", Amt: of(4)}
	s := rig.State(c)
	b := r.TxGas(c, "ann", 0, 7, 0, send, send)
	cost := tx.Cost(len(b), 2)
	run := func(chainName string, b []byte) (*store.Store, api.Result) {
		copied := s.Branch()
		return copied, chain.Deliver(copied, chainName, 2, 105, b)
	}
	unchanged := func(what string, b []byte, want api.Result) {
		t.Helper()
		if after, got := run("one", b); got != want || !bytes.Equal(after.Root(), s.Root()) {
			t.Error(what, got)
		}
	}
	unchanged("a tail", append(bytes.Clone(b), 0), api.Result{Err: api.ErrTail})
	unchanged("nothing", nil, api.Result{Err: api.ErrShort})
	unchanged("another number", r.Tx(c, "ann", 1, 7, send), api.Result{Err: api.ErrSeq})
	unchanged("a fee too great", r.TxGas(c, "ann", 0, 1001, 0, send), api.Result{Err: api.ErrFunds})
	if after, got := run("two", b); got != (api.Result{Err: api.ErrSig}) || !bytes.Equal(after.Root(), s.Root()) {
		t.Error(got)
	}
	paid := func(what string, b []byte, want api.Result) {
		t.Helper()
		after, got := run("one", b)
		a, _ := auth.Get(after, "ann")
		if got != want || bank.Bal(after, "fees", "fuel") != of(7) || bank.Bal(after, "bob", "atom") != of(0) || a.Seq != 1 || len(after.Pairs("")) != len(s.Pairs(""))+1 {
			t.Error(what, got)
		}
	}
	paid("no gas", b, api.Result{Err: api.ErrGas})
	paid("gas less by one", r.TxGas(c, "ann", 0, 7, cost-1, send, send), api.Result{Err: api.ErrGas})
	paid("the second message", r.TxGas(c, "ann", 0, 7, rig.Gas, send, api.Msg{Kind: 77}, send), api.Result{Err: api.ErrKind, Msg: 2})
	paid("the last message", r.TxGas(c, "ann", 0, 7, rig.Gas, send, send, api.Msg{Kind: api.Send, To: "bob", Denom: "atom", Amt: of(43)}), api.Result{Err: api.ErrFunds, Msg: 3})
	after, got := run("one", r.TxGas(c, "ann", 0, 7, cost, send, send))
	if got != (api.Result{}) || bank.Bal(after, "bob", "atom") != of(8) {
		t.Error("just enough gas", got)
	}
	if after, got := run("one", r.Tx(c, "ann", 0, 0)); got != (api.Result{}) || len(after.Pairs("")) != len(s.Pairs("")) {
		t.Error("no messages", got)
	}
	// a message sees what the one ahead of it did
	if after, got := run("one", r.Tx(c, "ann", 0, 0, api.Msg{Kind: api.Rekey, Ack: r.Root("ann", 1)}, api.Msg{Kind: api.Rekey, Ack: r.Root("ann", 2)})); got != (api.Result{}) {
		t.Error(got)
	} else if a, _ := auth.Get(after, "ann"); a.Base != 1 || !bytes.Equal(a.Root, r.Root("ann", 2)) {
		t.Error(a)
	}
	if got := chain.Deliver(nil, "one", 1, 1, b); got.Err == api.OK {
		t.Error("over no store")
	}
}

func TestResume(t *testing.T) {
	r := rig.New()
	if c, e := chain.Resume(nil); c != nil || e != api.ErrNil {
		t.Error(e)
	}
	if c, e := chain.Resume(disk.New()); c != nil || e != api.ErrGenesis {
		t.Error(e)
	}
	lost, _ := disk.Load([]api.File{{Name: "marks", Data: []byte{1}}})
	if c, e := chain.Resume(lost); c != nil || e != api.ErrLost {
		t.Error(e)
	}
	g := begin(r, "one")
	c, d := start(t, g)
	next := r.Set("q", "r")
	c.Block(105, [][]byte{r.Tx(c, "ann", 0, 3)}, next)
	again, e := chain.Resume(d)
	if e != api.OK || !reflect.DeepEqual(again.Head(), c.Head()) || !reflect.DeepEqual(again.Set(), next) || !reflect.DeepEqual(again.Pairs(""), c.Pairs("")) || again.Off() {
		t.Error(e)
	}
	tell := r.Tx(c, "ann", 0, 3)
	l, e := again.Block(106, [][]byte{tell}, g.Vals)
	k, e2 := c.Block(106, [][]byte{tell}, g.Vals)
	if e != api.OK || e2 != api.OK || !slices.Equal(l, k) || !reflect.DeepEqual(again.Head(), c.Head()) {
		t.Error("the same transactions don't come to the same", e, e2)
	}
	d.Arm(1)
	d.Sync("log")
	if c, e := chain.Resume(d); c != nil || e != api.ErrDown {
		t.Error(e)
	}
}

// The longest set comes back.
func TestResumeOfEightValidators(t *testing.T) {
	r := rig.New()
	c, d := start(t, begin(r, "one"))
	next := r.Set("a", "b", "c", "d", "e", "f", "g", "h")
	if _, e := c.Block(105, nil, next); e != api.OK {
		t.Fatal(e)
	}
	again, e := chain.Resume(d)
	if e != api.OK || !reflect.DeepEqual(again.Set(), next) {
		t.Error(e)
	}
}

func TestResumeOfOtherRecords(t *testing.T) {
	r := rig.New()
	c, _ := start(t, begin(r, "one"))
	h, set, pairs := c.Head(), c.Set(), c.Pairs("")
	good := recordOf(h, set, pairs)
	rooted := func(pairs []api.Pair) []byte {
		x := h
		x.Root, _ = merkle.Root(pairs)
		return recordOf(x, set, pairs)
	}
	turned := h
	turned.Root = make([]byte, 32)
	swapped := slices.Clone(pairs)
	swapped[0], swapped[1] = swapped[1], swapped[0]
	cases := []struct {
		what string
		b    []byte
		want api.Errno
	}{
		{"itself", good, api.OK},
		{"nothing", nil, api.ErrLost},
		{"less", good[:len(good)-1], api.ErrLost},
		{"more", append(bytes.Clone(good), 0), api.ErrLost},
		{"a header and more", append(wire.B(nil, append(vals.Header(h), 0)), good[4+len(vals.Header(h)):]...), api.ErrLost},
		{"a header and less", append(wire.B(nil, vals.Header(h)[:20]), good[4+len(vals.Header(h)):]...), api.ErrLost},
		{"another root", recordOf(turned, set, pairs), api.ErrLost},
		{"other pairs", recordOf(h, set, pairs[1:]), api.ErrLost},
		{"pairs out of order", rooted(swapped), api.ErrLost},
		{"no pairs", rooted(nil), api.OK},
		{"no set", recordOf(h, nil, pairs), api.ErrLost},
		{"no set of validators", recordOf(h, []api.Val{{Name: "b", Power: 1}, {Name: "a", Power: 1}}, pairs), api.ErrLost},
		{"a set and more", append(wire.B(wire.B(nil, vals.Header(h)), append(vals.Bytes(set), 0)), good[8+len(vals.Header(h))+len(vals.Bytes(set)):]...), api.ErrLost},
		{"a count of many", append(wire.B(wire.B(nil, vals.Header(h)), vals.Bytes(set)), bytes.Repeat([]byte{255}, 8)...), api.ErrLost},
		{"a count, but no pairs", append(wire.B(wire.B(nil, vals.Header(h)), vals.Bytes(set)), 0, 0, 0, 0, 0, 1, 0, 0), api.ErrLost},
	}
	for _, x := range cases {
		d := disk.New()
		n, _, _ := node.Open(d)
		n.Put([]byte("an earlier one, whatever it is"))
		n.Put(x.b)
		if c, e := chain.Resume(d); e != x.want || (c != nil) != (e == api.OK) {
			t.Error(x.what, e)
		}
	}
}

// The power goes in each operation of a block, with any of what isn't safe kept.
func TestPowerAtEachOperation(t *testing.T) {
	r := rig.New()
	g := begin(r, "one")
	for n := 1; n <= 5; n++ {
		for _, keep := range []int{0, 1, 5, 1 << 20} {
			c, d := start(t, g)
			c.Block(105, [][]byte{r.Tx(c, "ann", 0, 1)}, g.Vals)
			old, oldPairs := c.Head(), c.Pairs("")
			txs := [][]byte{r.Tx(c, "ann", 0, 2, api.Msg{Kind: api.Send, To: "bob", Denom: "atom", Amt: of(1)})}
			d.Arm(n)
			l, e := c.Block(110, txs, g.Vals)
			if n == 5 {
				want(t, e, api.OK)
				continue
			}
			if e != api.ErrDown || len(l) != 0 || !c.Off() || !reflect.DeepEqual(c.Head(), old) || !reflect.DeepEqual(c.Pairs(""), oldPairs) {
				t.Error(n, e)
			}
			if _, e := c.Block(0, nil, nil); e != api.ErrDown {
				t.Error("a chain that is off", e)
			}
			kept := make([]bool, min(keep, d.Waiting()))
			for i := range kept {
				kept[i] = true
			}
			left, _ := disk.Load(d.Crash(kept))
			again, e := chain.Resume(left)
			if e != api.OK {
				t.Fatal(n, keep, e)
			}
			if again.Head().Height == 2 {
				if !reflect.DeepEqual(again.Head(), old) || !reflect.DeepEqual(again.Pairs(""), oldPairs) {
					t.Error("not as it was")
				}
				if l, e := again.Block(110, txs, g.Vals); e != api.OK || l[0] != (api.Result{}) {
					t.Error(l, e)
				}
			}
			other, _ := start(t, g)
			other.Block(105, [][]byte{r.Tx(other, "ann", 0, 1)}, g.Vals)
			other.Block(110, txs, g.Vals)
			if !reflect.DeepEqual(again.Head(), other.Head()) || !reflect.DeepEqual(again.Pairs(""), other.Pairs("")) || again.Head().Height != 3 {
				t.Error("it doesn't come to the same", n, keep)
			}
		}
	}
}

func TestExport(t *testing.T) {
	x := joined(t)
	x.must(0, "ann", api.Msg{Kind: api.Transfer, Chan: "chan-0", Denom: "atom", Amt: of(5), To: "bob"})
	c := x.c[0]
	g := c.Export()
	if g.Chain != "one" || g.Time != c.Head().Time || !reflect.DeepEqual(g.Vals, c.Set()) || !reflect.DeepEqual(g.Next, c.Set()) || !reflect.DeepEqual(g.Pairs, c.Pairs("")) {
		t.Error(g)
	}
	again, e := chain.Start(disk.New(), g)
	if e != api.OK || !reflect.DeepEqual(again.Pairs(""), c.Pairs("")) || !bytes.Equal(again.Head().Root, c.Head().Root) || again.Head().Height != 1 {
		t.Error(e)
	}
	g.Vals[0].Name = "zzz"
	g.Pairs[0].Value[0]++
	if g.Next[0].Name == "zzz" || c.Set()[0].Name == "zzz" || reflect.DeepEqual(g.Pairs, c.Pairs("")) {
		t.Error("memory is shared")
	}
}

func TestAnswersAreNewMemory(t *testing.T) {
	r := rig.New()
	g := begin(r, "one")
	c, d := start(t, g)
	next := slices.Clone(g.Vals)
	c.Block(105, nil, next)
	next[0].Name = "zzz"
	g.Pairs[0].Value[0]++
	before := vals.HashOf(c.Head())
	h := c.Head()
	h.Root[0]++
	h.Vals[0]++
	h.Next[0]++
	c.Set()[0].Name = "yyy"
	v, _ := c.Get("acc/ann")
	v[0]++
	p, _ := c.Prove("acc/ann")
	p.Leaves[0].Value[0]++
	p.Leaves[0].Path[0][0]++
	if !bytes.Equal(vals.HashOf(c.Head()), before) || c.Set()[0].Name != "a" {
		t.Error("shared")
	}
	h = c.Head()
	_ = append(append(append(h.Root, 1, 2, 3), h.Vals...), h.Next...)
	g = begin(r, "one")
	g.Next = slices.Clone(g.Next)
	other, _ := start(t, g)
	g.Next[0].Name = "zzz"
	if other.Set()[0].Name != "a" {
		t.Error("the beginning's set is kept")
	}
	again, _ := chain.Resume(d)
	if !reflect.DeepEqual(again.Pairs(""), c.Pairs("")) {
		t.Error("the state is shared")
	}
}

func TestProveGetPairs(t *testing.T) {
	r := rig.New()
	c, _ := start(t, begin(r, "one"))
	v, ok := c.Get("bal/ann/atom")
	p, e := c.Prove("bal/ann/atom")
	if !ok || e != api.OK || !merkle.Verify(c.Head().Root, "bal/ann/atom", v, p) || !bytes.Equal(v, limb.Bytes(of(50))) {
		t.Error(v, e)
	}
	p, e = c.Prove("bal/zed/atom")
	if e != api.OK || !merkle.Absent(c.Head().Root, "bal/zed/atom", p) {
		t.Error(e)
	}
	if _, e := c.Prove(""); e != api.ErrKey {
		t.Error(e)
	}
	if _, ok := c.Get("nope"); ok || len(c.Pairs("bal/")) != 3 || len(c.Pairs("")) != 9 {
		t.Error(len(c.Pairs("")))
	}
}

func TestNilChain(t *testing.T) {
	var c *chain.Chain
	l, e := c.Block(5, nil, []api.Val{{Name: "a", Power: 1}})
	if len(l) != 0 || e != api.ErrNil {
		t.Error(e)
	}
	if !reflect.DeepEqual(c.Head(), api.Header{}) || len(c.Set()) != 0 || len(c.Pairs("")) != 0 || c.Off() {
		t.Error("nil chain")
	}
	if g := c.Export(); g.Chain != "" || g.Time != 0 || len(g.Vals)+len(g.Next)+len(g.Pairs) != 0 {
		t.Error("Export")
	}
	if v, ok := c.Get("a"); ok || len(v) != 0 {
		t.Error("Get")
	}
	if p, e := c.Prove("a"); e != api.ErrNil || p.N != 0 || len(p.Leaves) != 0 {
		t.Error(e)
	}
}

// sentOf: the packets that are on their way from a channel.
func sentOf(c *chain.Chain, id string) []api.Packet {
	var l []api.Packet
	for _, x := range c.Pairs("ibc/sent/" + id + "/") {
		r := wire.Open(x.Value)
		l = append(l, api.Packet{Src: r.T(), Dst: r.T(), Seq: r.N(), Data: r.B(), Height: r.N(), Time: r.N()})
	}
	return l
}

func commit(p api.Packet) string {
	return "ibc/commit/" + p.Src + "/" + strings.Repeat("0", 15) + strconv.FormatUint(p.Seq, 16)
}

func ackKey(p api.Packet) string {
	return "ibc/ack/" + p.Dst + "/" + strings.Repeat("0", 15) + strconv.FormatUint(p.Seq, 16)
}

func receipt(p api.Packet) string {
	return "ibc/receipt/" + p.Dst + "/" + strings.Repeat("0", 15) + strconv.FormatUint(p.Seq, 16)
}

func told(c *chain.Chain, p api.Packet) []byte {
	b, _ := c.Get("ibc/told/" + p.Dst + "/" + strings.Repeat("0", 15) + strconv.FormatUint(p.Seq, 16))
	return b
}

// The document's examples 1 to 4: there, once more, back, and too late.
func TestTransfersThereAndBack(t *testing.T) {
	x := joined(t)
	x.must(0, "ann", api.Msg{Kind: api.Transfer, Chan: "chan-0", Denom: "atom", Amt: of(5), To: "bob"})
	if x.bal(0, "escrow.chan-0", "atom") != of(5) || x.bal(0, "ann", "atom") != of(45) {
		t.Error("escrow")
	}
	p := x.sent(0, "chan-0")[0]
	recv := api.Msg{Kind: api.Recv, Packet: p}
	x.must(1, "rob", x.bring(1, commit(p), recv))
	if x.bal(1, "bob", "transfer/chan-0/atom") != of(5) {
		t.Error("bob")
	}
	if got := told(x.c[1], p); !bytes.Equal(got, wire.T(wire.F(nil, true), "rob")) {
		t.Error(got)
	}
	again := x.bring(1, commit(p), recv)
	before := x.c[1].Pairs("")
	if r := x.block(1, "ros", again); r != (api.Result{Err: api.ErrFunds}) { // ros has no fuel
		t.Error(r)
	}
	if !reflect.DeepEqual(before, x.c[1].Pairs("")) {
		t.Error("ahead of the gas nothing changes")
	}
	if r := x.block(1, "rob", x.bring(1, commit(p), recv)); r != (api.Result{Err: api.ErrDone, Msg: 1}) {
		t.Error(r)
	}
	x.must(0, "rob", x.bring(0, ackKey(p), api.Msg{Kind: api.Ack, Packet: p, Ack: told(x.c[1], p)}))
	if len(x.sent(0, "chan-0")) != 0 || x.bal(0, "ann", "atom") != of(45) {
		t.Error("what is on its way")
	}

	bob, _ := chain.Resume(x.d[1])
	x.c[1] = bob
	x.mustAs(1, "bob", api.Msg{Kind: api.Transfer, Chan: "chan-0", Denom: "transfer/chan-0/atom", Amt: of(2), To: "cyd"})
	q := x.sent(1, "chan-0")[0]
	x.must(0, "rob", x.bring(0, commit(q), api.Msg{Kind: api.Recv, Packet: q}))
	if x.bal(1, "bob", "transfer/chan-0/atom") != of(3) || x.bal(0, "cyd", "atom") != of(2) || x.bal(0, "escrow.chan-0", "atom") != of(3) {
		t.Error("back")
	}

	height := x.c[1].Head().Height
	x.must(0, "ann", api.Msg{Kind: api.Transfer, Chan: "chan-0", Denom: "atom", Amt: of(7), To: "bob", Height: height + 1})
	late := x.sent(0, "chan-0")[0]
	if r := x.block(1, "rob", x.bring(1, commit(late), api.Msg{Kind: api.Recv, Packet: late})); r != (api.Result{Err: api.ErrLate, Msg: 1}) {
		t.Error(r)
	}
	if x.bal(0, "ann", "atom") != of(38) {
		t.Error("ann")
	}
	x.must(0, "rob", x.bring(0, receipt(late), api.Msg{Kind: api.Timeout, Packet: late}))
	if x.bal(0, "ann", "atom") != of(45) || len(x.sent(0, "chan-0")) != 0 {
		t.Error("ann hasn't hers back")
	}
}

// mustAs: the same without a fee, for those who have no fuel.
func (x *two) mustAs(on int, who string, msgs ...api.Msg) {
	x.t.Helper()
	x.clock++
	l, e := x.c[on].Block(x.clock, [][]byte{x.Rig.Tx(x.c[on], who, 0, 0, msgs...)}, x.c[on].Set())
	if e != api.OK || l[0] != (api.Result{}) {
		x.t.Fatal(l, e)
	}
}

// Example 5: what is above a limit is answered 'not done', and goes back; the relayers are paid.
func TestLimitAndFees(t *testing.T) {
	x := newTwo(t)
	r := x.Rig
	limit := wire.B(wire.N(wire.N(wire.B(nil, limb.Bytes(of(10))), 1000), 0), limb.Bytes(of(0)))
	x.c[1], x.d[1] = start(t, rig.With(begin(r, "two"), "limit/chan-0/transfer/chan-0/atom", limit))
	x.Connect(1000)
	x.Open("rob", "chan-0", "chan-0", "transfer", "transfer", false, "ics20")
	for i := range 3 {
		x.must(0, "ann", api.Msg{Kind: api.Transfer, Chan: "chan-0", Denom: "atom", Amt: of(4), To: "bob"},
			api.Msg{Kind: api.PayFee, Chan: "chan-0", Next: uint64(i + 1), Pay: api.Pay{Denom: "fuel", Recv: of(3), Ack: of(2), Timeout: of(1)}})
		if r := x.block(0, "ann", api.Msg{Kind: api.PayFee, Chan: "chan-0", Next: uint64(i + 1), Pay: api.Pay{Denom: "fuel", Recv: of(3)}}); r != (api.Result{Err: api.ErrPay, Msg: 1}) {
			t.Error(r)
		}
		p := x.sent(0, "chan-0")[0]
		fuel := x.bal(0, "ann", "fuel")
		x.must(1, "ann", x.bring(1, commit(p), api.Msg{Kind: api.Recv, Packet: p}))
		if got := told(x.c[1], p); !bytes.Equal(got, wire.T(wire.F(nil, i < 2), "ann")) {
			t.Error(i, got)
		}
		rob := x.bal(0, "rob", "fuel")
		x.must(0, "rob", x.bring(0, ackKey(p), api.Msg{Kind: api.Ack, Packet: p, Ack: told(x.c[1], p)}))
		if more, _ := limb.Sub(x.bal(0, "ann", "fuel"), fuel); more != of(4) { // for bringing it, and what is for a Timeout
			t.Error(i, more)
		}
		if x.bal(0, "rob", "fuel") != rob { // two for the answer, less the fees of two transactions
			t.Error(i, "rob", x.bal(0, "rob", "fuel"), rob)
		}
	}
	if x.bal(0, "ann", "atom") != of(42) || x.bal(1, "bob", "transfer/chan-0/atom") != of(8) || x.bal(0, "escrow.chan-0", "atom") != of(8) || x.bal(0, "feepool", "fuel") != of(0) {
		t.Error(x.bal(0, "ann", "atom"), x.bal(1, "bob", "transfer/chan-0/atom"))
	}
}

// Example 9: ann leads an account on chain two; all orders of a packet, or none.
func TestLedAccounts(t *testing.T) {
	x := newTwo(t)
	x.c[1], x.d[1] = start(t, led(x.Rig))
	x.Connect(1000)
	x.Open("ann", "chan-0", "chan-0", "control", "host", true, "ann")
	if got, _ := x.c[0].Get("ica/active/conn-0/ann"); string(got) != "chan-0" {
		t.Error(got)
	}
	account := "ica.conn-0.ann"
	order := func(to string, n uint64) api.Order { return api.Order{To: to, Denom: "atom", Amt: of(n)} }
	for i, c := range []struct {
		orders []api.Order
		done   bool
		left   uint64
	}{{[]api.Order{order("bob", 3), order("cyd", 4)}, false, 5}, {[]api.Order{order("bob", 3), order("cyd", 2)}, true, 0}} {
		x.must(0, "ann", api.Msg{Kind: api.Execute, Chan: "chan-0", Orders: c.orders})
		if r := x.block(0, "rob", api.Msg{Kind: api.Execute, Chan: "chan-0", Orders: c.orders}); r != (api.Result{Err: api.ErrOwner, Msg: 1}) {
			t.Error(r)
		}
		p := x.sent(0, "chan-0")[0]
		x.must(1, "rob", x.bring(1, commit(p), api.Msg{Kind: api.Recv, Packet: p}))
		if got := told(x.c[1], p); !bytes.Equal(got, wire.T(wire.F(nil, c.done), "rob")) || x.bal(1, account, "atom") != of(c.left) {
			t.Error(i, got)
		}
		x.must(0, "rob", x.bring(0, ackKey(p), api.Msg{Kind: api.Ack, Packet: p, Ack: told(x.c[1], p)}))
	}
	if x.bal(1, "bob", "atom") != of(3) || x.bal(1, "cyd", "atom") != of(2) {
		t.Error("bob, cyd")
	}
	if r := x.block(0, "rob", api.Msg{Kind: api.ChanClose, Chan: "chan-0"}); r != (api.Result{Err: api.ErrOwner, Msg: 1}) {
		t.Error(r)
	}
	if r := x.block(0, "ann", api.Msg{Kind: api.ChanInit, Conn: "conn-0", Port: "control", CPort: "host", Ordered: true, Version: "ann"}); r != (api.Result{Err: api.ErrState, Msg: 1}) {
		t.Error(r)
	}
	x.must(0, "ann", api.Msg{Kind: api.ChanClose, Chan: "chan-0"})
	x.must(1, "rob", x.bring(1, chans.Key("chan-0"), api.Msg{Kind: api.ChanCloseConfirm, Chan: "chan-0"}))
	x.must(0, "ann", api.Msg{Kind: api.ChanInit, Conn: "conn-0", Port: "control", CPort: "host", Ordered: true, Version: "ann"})
}

// led: chain two, where ann's account that is led has 5 atom, and somebody 50.
func led(r *rig.Rig) api.Genesis {
	return r.Genesis("two", r.Set("a", "b", "c", "d"), []string{"ann", "bob", "rob"}, rig.Coin{Who: "rob", Denom: "fuel", Amt: 1000}, rig.Coin{Who: "ica.conn-0.ann", Denom: "atom", Amt: 5}, rig.Coin{Who: "ann", Denom: "atom", Amt: 50})
}
