package rig

import (
	"bytes"
	"slices"
	"strings"

	"isthmus/api"
	"isthmus/bank"
	"isthmus/chain"
	"isthmus/chans"
	"isthmus/limb"
	"isthmus/merkle"
	"isthmus/packet"
	"isthmus/transfer"
	"isthmus/vals"
	"isthmus/wire"
	"isthmus/world"
)

// Play lets anything happen to a world; validator d is faulty, and has less than a third of each set, unless all are faulty.
type Play struct {
	W    *world.World
	Rig  *Rig
	Pick func(n int) int // one of the numbers below n
	all  bool            // are all validators faulty?
	// Signed: who has a transaction waiting, of each chain; Past: transactions that came earlier.
	Signed [2]map[string]int
	Past   [2][][]byte
	sets   [][]api.Val
}

// Quota of what comes in of atom, in Window blocks.
const (
	Quota  = 60
	Window = 12
)

// Users: who has an account on both chains. rob and ros relay.
func Users() []string {
	return []string{"ann", "bob", "cyd", "rob", "ros"}
}

// NewPlay: a world of two chains that are joined: chan-0 and chan-1 of transfers, chan-2 for ann's orders.
func NewPlay(pick func(n int) int, all bool) *Play {
	r := New()
	p := &Play{Rig: r, Pick: pick, all: all}
	p.sets = [][]api.Val{r.Set("a", "b", "c", "d"), r.Set("a", "b", "c", "e"), r.Set("b", "c", "d", "e", "f"), r.Set("a", "c", "e", "f", "g")}
	var l [2]api.Genesis
	for i, name := range []string{"one", "two"} {
		g := r.Genesis(name, p.sets[0], Users(), Coin{"ann", "atom", 500}, Coin{"bob", "atom", 50}, Coin{"ann", "fuel", 900}, Coin{"rob", "fuel", 900}, Coin{"ros", "fuel", 900}, Coin{"ica.conn-0.ann", "atom", 40})
		limit := transfer.Limit{Quota: limb.Of(Quota), Window: Window}
		b := wire.N(wire.N(wire.B(nil, limb.Bytes(limit.Quota)), limit.Window), 0)
		l[i] = With(g, "limit/chan-0/transfer/chan-0/atom", wire.B(b, limb.Bytes(limit.Used)))
	}
	faulty := []string{"d"}
	if all {
		faulty = []string{"a", "b", "c", "d", "e", "f", "g"}
	}
	p.W, _ = world.New(l[0], l[1], faulty)
	p.Signed = [2]map[string]int{{}, {}}
	link := &Link{Rig: r, By: "rob", Chain: p.W.Chain, Do: p.now}
	link.Connect(100000)
	link.Open("rob", "chan-0", "chan-0", "transfer", "transfer", false, "ics20")
	link.Open("rob", "chan-1", "chan-1", "transfer", "transfer", false, "ics20")
	link.Open("ann", "chan-2", "chan-2", "control", "host", true, "ann")
	return p
}

// now: a transaction comes, and a block is made; both chains' times are kept together.
func (p *Play) now(on int, who string, msgs ...api.Msg) {
	if m, worn := p.Rig.Worn(p.W.Chain(on), who); worn {
		p.W.Do(api.WStep{Kind: 1, On: on, Tx: p.Rig.Tx(p.W.Chain(on), who, 0, 0, m)})
		p.W.Do(p.Block(on))
	}
	p.W.Do(api.WStep{Kind: 1, On: on, Tx: p.Rig.Tx(p.W.Chain(on), who, 0, 0, msgs...)})
	p.W.Do(p.Block(on))
}

// Block: a block of a chain, of a time above both chains' last ones.
func (p *Play) Block(on int) api.WStep {
	own, other := p.W.Chain(on).Head().Time, p.W.Chain(1-on).Head().Time
	return api.WStep{Kind: 2, On: on, Time: max(own, other) + 1 - own}
}

// one: any of a list.
func one[T any](p *Play, l []T) T {
	return l[p.Pick(len(l))]
}

// Step: what happens next.
func (p *Play) Step() api.WStep {
	on := p.Pick(2)
	switch n := p.Pick(40); {
	case n < 11:
		x := p.Block(on)
		if p.Pick(4) == 0 {
			x.Set = one(p, p.sets)
		}
		return x
	case n == 11:
		return api.WStep{Kind: 3, On: on, N: p.Pick(6)}
	case n == 12:
		return api.WStep{Kind: 4, On: on, Keep: p.flags(20)}
	case n == 13:
		return api.WStep{Kind: 1, On: on, Tx: p.spoilt(on)}
	case n < 23:
		return p.tx(on, one(p, []string{"ann", "bob", "cyd"}), p.wish(on))
	default:
		who := one(p, []string{"rob", "ros"})
		return p.tx(on, who, p.relay(on))
	}
}

// Back: a chain that is off comes back from what a loss of power leaves.
func (p *Play) Back(on int) api.WStep {
	return api.WStep{Kind: 4, On: on, Keep: p.flags(4000)}
}

func (p *Play) flags(most int) []bool {
	l := make([]bool, p.Pick(most))
	for i := range l {
		l[i] = p.Pick(2) == 0
	}
	return l
}

// tx: a transaction comes to a chain; who has one there already, or keys that run out, does something else.
func (p *Play) tx(on int, who string, msgs []api.Msg) api.WStep {
	c := p.W.Chain(on)
	if p.Signed[on][who] > 0 {
		return p.Block(on)
	}
	if m, worn := p.Rig.Worn(c, who); worn {
		msgs = []api.Msg{m}
	}
	fee := uint64(0)
	if bank.Bal(State(c), who, "fuel") != (api.U{}) && p.Pick(3) == 0 {
		fee = 1
	}
	p.Signed[on][who]++
	b := p.Rig.Tx(c, who, 0, fee, msgs...)
	p.Past[on] = append(p.Past[on], b)
	return api.WStep{Kind: 1, On: on, Tx: b}
}

// spoilt: an earlier transaction once more, or with another byte, or one of the other chain.
func (p *Play) spoilt(on int) []byte {
	from := p.Pick(2)
	if len(p.Past[from]) == 0 {
		return []byte{1, 2, 3}
	}
	b := bytes.Clone(one(p, p.Past[from]))
	if p.Pick(2) == 0 {
		b[p.Pick(len(b))] ^= byte(1 + p.Pick(255))
	}
	return b
}

// wish: what users want.
func (p *Play) wish(on int) []api.Msg {
	c := p.W.Chain(on)
	switch p.Pick(9) {
	case 0:
		return []api.Msg{{Kind: api.Send, To: one(p, append(Users(), "escrow.chan-0", "ica.conn-0.ann")), Denom: p.denom(c), Amt: p.amount()}}
	case 1:
		l := p.Sent(on)
		if len(l) == 0 {
			return nil
		}
		x := one(p, l)
		return []api.Msg{{Kind: api.PayFee, Chan: x.Src, Next: x.Seq, Pay: api.Pay{Denom: "fuel", Recv: limb.Of(3), Ack: limb.Of(2), Timeout: limb.Of(1)}}}
	case 2:
		order := api.Order{To: one(p, Users()), Denom: p.denom(p.W.Chain(1 - on)), Amt: p.amount()}
		height, time := p.late(on)
		return []api.Msg{{Kind: api.Execute, Chan: p.led(), Orders: []api.Order{order, order}[:1+p.Pick(2)], Height: height, Time: time}}
	case 3:
		if p.Pick(4) > 0 {
			return nil
		}
		return []api.Msg{{Kind: one(p, []int{api.ChanClose, api.ChanInit}), Chan: p.led(), Conn: "conn-0", Port: "control", CPort: "host", Ordered: true, Version: "ann"}}
	}
	height, time := p.late(on)
	return []api.Msg{{Kind: api.Transfer, Chan: one(p, []string{"chan-0", "chan-1"}), Denom: p.denom(c), Amt: p.amount(), To: one(p, Users()), Height: height, Time: time}}
}

// led: the last channel of ann's orders, mostly.
func (p *Play) led() string {
	b, _ := p.W.Chain(0).Get("ica/active/conn-0/ann")
	return one(p, []string{string(b), string(b), "chan-2"})
}

// amount: 1 to 25.
func (p *Play) amount() api.U {
	return limb.Of(uint64(1 + p.Pick(25)))
}

// denom: one that there is.
func (p *Play) denom(c *chain.Chain) string {
	var l []string
	for _, x := range c.Pairs("sup/") {
		l = append(l, strings.TrimPrefix(x.Key, "sup/"))
	}
	return one(p, append(l, "atom"))
}

// late: from when on a packet is too late at the other chain.
func (p *Play) late(on int) (uint64, uint64) {
	h := p.W.Chain(1 - on).Head()
	switch p.Pick(4) {
	case 0:
		return h.Height + uint64(p.Pick(8)), 0
	case 1:
		return 0, h.Time + uint64(p.Pick(16))
	}
	return 0, 0
}

// Sent: the packets that are on their way from a chain.
func (p *Play) Sent(on int) []api.Packet {
	var l []api.Packet
	for _, x := range p.W.Chain(on).Pairs("ibc/sent/") {
		if y, e := packet.Parse(x.Value); e == api.OK {
			l = append(l, y)
		}
	}
	return l
}

// trusted: the headers of the other chain that a chain's client-0 trusts.
func (p *Play) trusted(on int) []api.Header {
	heads := p.W.Heads(1 - on)
	var l []api.Header
	for _, x := range p.W.Chain(on).Pairs("ibc/cons/client-0/") {
		height := uint64(0)
		for _, d := range strings.TrimPrefix(x.Key, "ibc/cons/client-0/") {
			height = 16*height + uint64(strings.IndexRune("0123456789abcdef", d))
		}
		if height <= uint64(len(heads)) { // else it was invented
			l = append(l, heads[height-1])
		}
	}
	return l
}

// tell: a chain's client is told of a header of the other one.
func (p *Play) tell(on int, h api.Header) api.Msg {
	l := p.trusted(on)
	best := l[0]
	for _, x := range l {
		if x.Height < h.Height && x.Height > best.Height {
			best = x
		}
	}
	if p.Pick(5) == 0 {
		best = one(p, l)
	}
	return p.Rig.Update("client-0", best, h)
}

// relay: what those who relay bring, or make up.
func (p *Play) relay(on int) []api.Msg {
	heads := p.W.Heads(1 - on)
	last := heads[len(heads)-1]
	if p.all && p.Pick(3) == 0 {
		return p.invented(on, last)
	}
	switch p.Pick(12) {
	case 0:
		return []api.Msg{p.tell(on, one(p, heads))}
	case 1:
		return []api.Msg{p.forged(on, last)}
	case 2:
		return []api.Msg{p.closing(on, last)}
	case 3:
		m := p.handshake(on)
		m.Height, m.Proof = last.Height, p.proof(1-on, chans.Key(m.CChan))
		return []api.Msg{p.tell(on, last), m}
	}
	var l []api.Msg
	known := p.trusted(on)
	if !slices.ContainsFunc(known, func(h api.Header) bool { return h.Height == last.Height }) {
		l = append(l, p.tell(on, last))
	}
	for range 1 + p.Pick(3) {
		l = append(l, p.brought(on, last)...)
	}
	return l[:min(len(l), api.MaxMsgs)]
}

func (p *Play) proof(on int, key string) api.Proof {
	x, _ := p.W.Chain(on).Prove(key)
	return x
}

// brought: a packet of the other chain comes in, or one of this chain comes to its end.
func (p *Play) brought(on int, last api.Header) []api.Msg {
	if l := p.Sent(1 - on); len(l) > 0 && p.Pick(2) == 0 {
		x := one(p, l)
		return []api.Msg{{Kind: api.Recv, Packet: x, Height: last.Height, Proof: p.proof(1-on, packet.Commit(x.Src, x.Seq))}}
	}
	l := p.Sent(on)
	if len(l) == 0 {
		return nil
	}
	x := one(p, l)
	if ack, ok := p.W.Chain(1 - on).Get(packet.Told(x.Dst, x.Seq)); ok && p.Pick(5) > 0 {
		return []api.Msg{{Kind: api.Ack, Packet: x, Ack: ack, Height: last.Height, Proof: p.proof(1-on, packet.AckKey(x.Dst, x.Seq))}}
	}
	key := packet.Receipt(x.Dst, x.Seq)
	b, _ := p.W.Chain(1 - on).Get(chans.Recv(x.Dst))
	if c, _ := chans.Get(State(p.W.Chain(on)), x.Src); c.Ordered {
		key = chans.Recv(x.Dst)
	}
	return []api.Msg{{Kind: api.Timeout, Packet: x, Next: wire.Open(b).N(), Height: last.Height, Proof: p.proof(1-on, key)}}
}

// closing: a channel whose other end is closed closes, too.
func (p *Play) closing(on int, last api.Header) api.Msg {
	id := one(p, []string{p.led(), "chan-2", "chan-0"})
	c, _ := chans.Get(State(p.W.Chain(on)), id)
	return api.Msg{Kind: api.ChanCloseConfirm, Chan: id, Height: last.Height, Proof: p.proof(1-on, chans.Key(c.CChan))}
}

// handshake: a step of the handshake of ann's last channel.
func (p *Play) handshake(on int) api.Msg {
	b, _ := p.W.Chain(0).Get("ica/active/conn-0/ann")
	id := string(b)
	if on == 1 {
		return api.Msg{Kind: one(p, []int{api.ChanTry, api.ChanConfirm}), Chan: id, CChan: id, Conn: "conn-0", Port: "host", CPort: "control", Ordered: true, Version: "ann"}
	}
	return api.Msg{Kind: api.ChanAck, Chan: id, CChan: id}
}

// forged: a header that nobody made, or two of one height, with votes that may have been given, or not.
func (p *Play) forged(on int, last api.Header) api.Msg {
	m := p.tell(on, last)
	m.Header.Root = vals.Hash(nil)
	m.Header.Height += uint64(p.Pick(3))
	m.Header.Time += uint64(p.Pick(3))
	if p.Pick(2) == 0 {
		m.Votes = []string{"d"}
	}
	if p.Pick(2) == 0 {
		m.Kind, m.Other, m.OtherVals, m.OtherVotes = api.Misbehave, last, m.Vals, Names(m.Vals)
	}
	return m
}

// invented: a header of a state that the other chain never had, where a packet is on its way to this one, or answered, or not received.
func (p *Play) invented(on int, last api.Header) []api.Msg {
	s := State(p.W.Chain(1 - on))
	data := transfer.Data{Denom: one(p, []string{"atom", "transfer/chan-0/atom", "transfer/chan-1/atom", "fuel"}), From: "zed", To: one(p, Users()), Amt: p.amount()}
	x := api.Packet{Src: one(p, []string{"chan-0", "chan-1"}), Seq: uint64(p.Pick(500)), Data: transfer.Bytes(data)}
	x.Dst = x.Src
	key, m := packet.Commit(x.Src, x.Seq), api.Msg{Kind: api.Recv, Packet: x}
	s.Set(key, packet.Hash(x))
	if l := p.Sent(on); len(l) > 0 && p.Pick(2) == 0 {
		x = one(p, l)
		m = api.Msg{Kind: one(p, []int{api.Ack, api.Timeout}), Packet: x, Ack: wire.T(wire.F(nil, p.Pick(2) == 0), "ros")}
		s.Set(packet.AckKey(x.Dst, x.Seq), packet.HashAck(m.Ack))
		s.Del(packet.Receipt(x.Dst, x.Seq))
		key = packet.AckKey(x.Dst, x.Seq)
		if m.Kind == api.Timeout {
			key = packet.Receipt(x.Dst, x.Seq)
		}
	}
	h := last
	h.Root = s.Root()
	h.Height += uint64(1 + p.Pick(300))
	h.Time += uint64(p.Pick(10))
	tell := p.tell(on, h)
	m.Height = h.Height
	m.Proof, _ = merkle.Prove(s.Pairs(""), key)
	return []api.Msg{tell, m}
}
