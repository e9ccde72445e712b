package ledger_test

import (
	"cmp"
	"math/rand"
	"reflect"
	"slices"
	"strings"
	"testing"

	"isthmus/api"
	"isthmus/bank"
	"isthmus/chain"
	"isthmus/chans"
	"isthmus/conn"
	"isthmus/disk"
	"isthmus/ledger"
	"isthmus/limb"
	"isthmus/name"
	"isthmus/packet"
	"isthmus/rig"
	"isthmus/store"
	"isthmus/transfer"
)

var most = api.U{1<<64 - 1, 1<<64 - 1, 1<<64 - 1, 1<<64 - 1}

func of(n uint64) api.U { return limb.Of(n) }

// ends: the states of two chains with a channel, chan-0 at the one, chan-7 at the other.
func ends() (*store.Store, *store.Store) {
	a, _ := store.New(nil)
	b, _ := store.New(nil)
	put(a, "chan-0", conn.Open, "transfer", "chan-7")
	put(b, "chan-7", conn.Open, "transfer", "chan-0")
	return a, b
}

func put(s *store.Store, id string, state uint64, port, cchan string) {
	chans.Put(s, id, chans.Chan{State: state, Port: port, CPort: port, Conn: "conn-0", CChan: cchan, Version: "v"})
}

// send: a packet on its way, of an amount of what the sender's chain names so.
func send(s *store.Store, src, dst string, seq uint64, denom string, amt api.U) {
	p := api.Packet{Src: src, Dst: dst, Seq: seq, Data: transfer.Bytes(transfer.Data{Denom: denom, From: "ann", To: "bob", Amt: amt})}
	s.Set(packet.Sent(src, seq), packet.Bytes(p))
}

func begun(t *testing.T, s *store.Store, name string) *chain.Chain {
	t.Helper()
	set := []api.Val{{Name: "a", Power: 1}}
	c, e := chain.Start(disk.New(), api.Genesis{Chain: name, Vals: set, Next: set, Pairs: s.Pairs("")})
	if e != api.OK {
		t.Fatal(e)
	}
	return c
}

func lines(t *testing.T, a, b *store.Store) []ledger.Line {
	t.Helper()
	return ledger.Lines(begun(t, a, "one"), begun(t, b, "two"))
}

func line(id, denom string, held, out, there, back uint64) ledger.Line {
	return ledger.Line{Chan: id, Denom: denom, Held: of(held), Out: of(out), There: of(there), Back: of(back), Fits: true}
}

func check(t *testing.T, got []ledger.Line, want ...ledger.Line) {
	t.Helper()
	if len(got) != len(want) || len(want) > 0 && !reflect.DeepEqual(got, want) {
		t.Errorf("%v instead of %v", got, want)
	}
}

func TestOfNothing(t *testing.T) {
	a, b := ends()
	one, two := begun(t, a, "one"), begun(t, b, "two")
	check(t, ledger.Lines(nil, two))
	check(t, ledger.Lines(one, nil))
	check(t, ledger.Lines(nil, nil))
	check(t, ledger.Lines(one, two))
	bank.Mint(a, "escrow.chan-0", "atom", of(5))
	bank.Mint(b, "bob", "transfer/chan-7/atom", of(5))
	one, two = begun(t, a, "one"), begun(t, b, "two")
	check(t, ledger.Lines(one, two), line("chan-0", "atom", 5, 0, 5, 0))
	check(t, ledger.Lines(nil, two))
	check(t, ledger.Lines(one, nil))
	ledger.Lines(new(chain.Chain), new(chain.Chain)) // of what no maker has made the calls end
}

// The chapter's example: out, there, back.
func TestExample(t *testing.T) {
	a, b := ends()
	bank.Mint(a, "escrow.chan-0", "atom", of(5))
	send(a, "chan-0", "chan-7", 1, "atom", of(5))
	check(t, lines(t, a, b), line("chan-0", "atom", 5, 5, 0, 0))
	bank.Mint(b, "bob", "transfer/chan-7/atom", of(5))
	b.Set(packet.Told("chan-7", 1), []byte{1, 7})
	check(t, lines(t, a, b), line("chan-0", "atom", 5, 0, 5, 0))
	a.Del(packet.Sent("chan-0", 1))
	bank.Burn(b, "bob", "transfer/chan-7/atom", of(2))
	send(b, "chan-7", "chan-0", 1, "transfer/chan-7/atom", of(2))
	check(t, lines(t, a, b), line("chan-0", "atom", 5, 0, 3, 2))
	check(t, lines(t, b, a)) // what came through the channel isn't held
	bank.Burn(a, "escrow.chan-0", "atom", of(2))
	a.Set(packet.Told("chan-0", 1), []byte{1})
	check(t, lines(t, a, b), line("chan-0", "atom", 3, 0, 3, 0))
}

func TestWhichChannels(t *testing.T) {
	a, b := ends()
	a.Del(chans.Key("chan-0"))
	put(a, "chan-10", conn.Open, "transfer", "chan-7")
	put(a, "chan-2", conn.Open, "transfer", "chan-8")
	put(a, "chan-3", conn.Closed, "transfer", "chan-8")
	put(a, "chan-4", conn.Tried, "transfer", "chan-8")
	put(a, "chan-5", conn.Open, "control", "chan-8")
	put(a, "Chan-6", conn.Open, "transfer", "chan-8")
	a.Set(chans.Key("chan-7"), []byte{1})
	for _, id := range []string{"chan-10", "chan-2", "chan-3", "chan-4", "chan-5", "chan-7"} {
		bank.Mint(a, "escrow."+id, "atom", of(1))
	}
	check(t, lines(t, a, b), line("chan-10", "atom", 1, 0, 0, 0), line("chan-2", "atom", 1, 0, 0, 0))
}

func TestWhichDenominations(t *testing.T) {
	a, b := ends()
	bank.Mint(a, "escrow.chan-0", "held", of(1))
	bank.Mint(a, "escrow.chan-0", "both", of(2))
	bank.Mint(a, "escrow.chan-0", "transfer/chan-0/gift", of(3)) // came through the channel itself
	bank.Mint(a, "escrow.chan-0", "transfer/chan-1/far", of(4))
	bank.Mint(a, "escrow.chan-1", "other", of(5))
	bank.Mint(b, "bob", "transfer/chan-7/there", of(6))
	bank.Mint(b, "bob", "transfer/chan-7/both", of(7))
	bank.Mint(b, "bob", "transfer/chan-7/transfer/chan-0/round", of(8))
	bank.Mint(b, "bob", "transfer/chan-77/no", of(9))
	bank.Mint(b, "bob", "plain", of(9))
	send(a, "chan-0", "chan-7", 1, "sent", of(10))
	send(a, "chan-0", "chan-7", 2, "arrived", of(11))
	send(a, "chan-0", "chan-7", 3, "transfer/chan-0/home", of(12))
	send(a, "chan-0", "chan-7", 4, "sent", of(13))
	send(a, "chan-1", "chan-7", 1, "elsewhere", of(14))
	b.Set(packet.Told("chan-7", 2), []byte{1})
	send(b, "chan-7", "chan-0", 1, "transfer/chan-7/back", of(15)) // of what is only on its way back there is no line
	check(t, lines(t, a, b),
		line("chan-0", "arrived", 0, 0, 0, 0), line("chan-0", "both", 2, 0, 7, 0), line("chan-0", "held", 1, 0, 0, 0),
		line("chan-0", "sent", 0, 23, 0, 0), line("chan-0", "there", 0, 0, 6, 0), line("chan-0", "transfer/chan-1/far", 4, 0, 0, 0))
}

func TestWhatIsOnItsWay(t *testing.T) {
	a, b := ends()
	bank.Mint(a, "escrow.chan-0", "atom", of(99))
	bank.Mint(b, "bob", "transfer/chan-7/atom", of(1))
	for seq := uint64(1); seq < 9; seq++ {
		send(a, "chan-0", "chan-7", seq, "atom", of(1<<seq))
		send(b, "chan-7", "chan-0", seq, "transfer/chan-7/atom", of(1<<(seq+10)))
	}
	a.Set(packet.Sent("chan-0", 3), []byte("no packet"))
	b.Set(packet.Sent("chan-7", 3), []byte("no packet"))
	no := api.Packet{Src: "chan-0", Dst: "chan-7", Seq: 4, Data: []byte("no data")}
	a.Set(packet.Sent("chan-0", 4), packet.Bytes(no))
	b.Set(packet.Sent("chan-7", 4), packet.Bytes(no))
	for id, s := range map[string]*store.Store{"chan-7": b, "chan-0": a} {
		s.Set(packet.Told(id, 5), []byte{1})
		s.Set(packet.Told(id, 6), []byte{0, 1}) // not done: it goes back to the sender
		s.Set(packet.Told(id, 7), nil)
	}
	check(t, lines(t, a, b), line("chan-0", "atom", 99, 2+4+64+128+256, 1, (2+4+64+128+256)<<10))
	// it is told of the packet's own Dst and number
	other := api.Packet{Src: "chan-0", Dst: "chan-9", Seq: 50, Data: transfer.Bytes(transfer.Data{Denom: "atom", From: "ann", To: "bob", Amt: of(512)})}
	a.Set(packet.Sent("chan-0", 8), packet.Bytes(other))
	check(t, lines(t, a, b), line("chan-0", "atom", 99, 2+4+64+128+512, 1, (2+4+64+128+256)<<10))
	b.Set(packet.Told("chan-9", 50), []byte{1})
	check(t, lines(t, a, b), line("chan-0", "atom", 99, 2+4+64+128, 1, (2+4+64+128+256)<<10))
}

func TestSumsThatDontFit(t *testing.T) {
	ready := func() (*store.Store, *store.Store) {
		a, b := ends()
		bank.Mint(a, "escrow.chan-0", "atom", of(3))
		return a, b
	}
	want := ledger.Line{Chan: "chan-0", Denom: "atom", Held: of(3)}
	a, b := ready()
	send(a, "chan-0", "chan-7", 1, "atom", most)
	send(a, "chan-0", "chan-7", 2, "atom", of(1))
	bank.Mint(b, "bob", "transfer/chan-7/atom", of(4))
	want.There = of(4)
	check(t, lines(t, a, b), want)

	a, b = ready()
	for seq := range uint64(3) {
		send(b, "chan-7", "chan-0", seq, "transfer/chan-7/atom", most)
	}
	send(a, "chan-0", "chan-7", 1, "atom", most) // back counts as 0
	want.There, want.Out = of(0), most
	check(t, lines(t, a, b), want)

	a, b = ready()
	send(a, "chan-0", "chan-7", 1, "atom", most)
	bank.Mint(b, "bob", "transfer/chan-7/atom", of(1))
	want.There = of(1)
	check(t, lines(t, a, b), want)

	a, b = ready()
	send(a, "chan-0", "chan-7", 1, "atom", of(1))
	send(b, "chan-7", "chan-0", 1, "transfer/chan-7/atom", most)
	want.There, want.Out, want.Back = of(0), of(1), most
	check(t, lines(t, a, b), want)

	a, b = ready()
	send(a, "chan-0", "chan-7", 1, "atom", most)
	want.Out, want.Back, want.Fits = most, of(0), true
	check(t, lines(t, a, b), want)
}

func TestWithoutADenominationThere(t *testing.T) {
	a, b := ends()
	long := strings.Repeat("transfer/a/", 12) + strings.Repeat("t", 28)
	bank.Mint(a, "escrow.chan-0", long, of(3))
	check(t, lines(t, a, b), line("chan-0", long, 3, 0, 0, 0))
	put(a, "chan-0", conn.Open, "transfer", "Chan")
	bank.Mint(a, "escrow.chan-0", "atom", of(4))
	send(b, "Chan", "chan-0", 1, "transfer/chan-7/atom", of(5))
	check(t, lines(t, a, b), line("chan-0", "atom", 4, 0, 0, 0), line("chan-0", long, 3, 0, 0, 0))
	id := "a" + strings.Repeat("b", 25) // its escrow is no identifier: it has nothing
	put(a, id, conn.Open, "transfer", "chan-9")
	a.Del(chans.Key("chan-0"))
	a.Set(packet.Sent(id, 1), packet.Bytes(api.Packet{Src: id, Dst: "chan-9", Seq: 1, Data: transfer.Bytes(transfer.Data{Denom: "atom", From: "ann", To: "bob", Amt: of(1)})}))
	check(t, lines(t, a, b), line(id, "atom", 0, 1, 0, 0))
}

func TestCovered(t *testing.T) {
	for i, c := range []struct {
		l    ledger.Line
		want bool
	}{
		{line("", "", 6, 3, 2, 1), true}, {line("", "", 7, 3, 2, 1), true}, {line("", "", 5, 3, 2, 1), false}, {line("", "", 0, 0, 0, 0), true},
		{ledger.Line{Held: of(9), Out: of(1)}, false},
		{ledger.Line{Held: most, Out: most, Fits: true}, true},
		{ledger.Line{Held: most, Out: most, Back: of(1), Fits: true}, false},
		{ledger.Line{Held: most, Out: most, There: most, Back: of(2), Fits: true}, false},
		{ledger.Line{Held: most, There: most, Back: most, Fits: true}, false},
		{ledger.Line{Out: most, There: of(1), Fits: true}, false}, // the sum would wrap round to 0
	} {
		if ledger.Covered(c.l) != c.want {
			t.Error(i)
		}
	}
}

// In a world whose faulty validators have less than a third, each line of both chains is covered behind every step.
func TestEveryLineIsCovered(t *testing.T) {
	for seed := range int64(3) {
		r := rand.New(rand.NewSource(300 + seed))
		p := rig.NewPlay(r.Intn, false)
		nothing := 0
		for range 500 {
			x := p.Step()
			if _, e := p.W.Do(x); e == api.OK && (x.Kind == 2 || x.Kind == 4) {
				p.Signed[x.On] = map[string]int{}
			}
			for on := range 2 {
				if p.W.Chain(on).Off() {
					p.W.Do(p.Back(on))
					p.Signed[on] = map[string]int{}
				}
				l := ledger.Lines(p.W.Chain(on), p.W.Chain(1-on))
				if len(l) == 0 {
					nothing++
				}
				sorted := slices.IsSortedFunc(l, func(a, b ledger.Line) int {
					return cmp.Or(cmp.Compare(a.Chan, b.Chan), cmp.Compare(a.Denom, b.Denom))
				})
				for _, x := range l {
					hop, _, ok := name.Hop(x.Denom)
					if !ledger.Covered(x) || !sorted || ok && hop == x.Chan {
						t.Fatal(on, x)
					}
				}
			}
		}
		if nothing > 800 {
			t.Error("little happened", nothing)
		}
	}
}
