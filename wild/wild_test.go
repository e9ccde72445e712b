// Package wild calls everything with any arguments: no call panics, none changes what it is handed, and beside an error there is nothing else.
package wild

import (
	"bytes"
	"math/rand"
	"reflect"
	"strings"
	"testing"

	"isthmus/api"
	"isthmus/auth"
	"isthmus/bank"
	"isthmus/chain"
	"isthmus/chans"
	"isthmus/client"
	"isthmus/conn"
	"isthmus/disk"
	"isthmus/fee"
	"isthmus/ica"
	"isthmus/ledger"
	"isthmus/limb"
	"isthmus/merkle"
	"isthmus/name"
	"isthmus/node"
	"isthmus/packet"
	"isthmus/relay"
	"isthmus/rig"
	"isthmus/sha"
	"isthmus/sign"
	"isthmus/store"
	"isthmus/transfer"
	"isthmus/tx"
	"isthmus/vals"
	"isthmus/wire"
	"isthmus/world"
)

// pure: the calls that hang on plain arguments.
var pure = []any{
	limb.Of, limb.Cmp, limb.Zero, limb.Add, limb.Sub, limb.Mul, limb.Div, limb.Print, limb.Parse, limb.Bytes, limb.From,
	wire.N, wire.B, wire.T, wire.F, wire.Open, sha.Sum, sha.Tagged, sha.Hex, sign.Verify,
	name.Ident, name.Denom, name.Hop, name.Over, name.Base, name.Hops, disk.Load, node.Open,
	merkle.Root, merkle.Prove, merkle.Verify, merkle.Absent, store.New, bank.Right,
	tx.Fits, tx.Encode, tx.Decode, tx.SignBytes, tx.Cost,
	vals.Right, vals.Bytes, vals.Hash, vals.Header, vals.HashOf, vals.Power, vals.Voted, vals.Quorum, vals.Third,
	client.Hex, conn.Key, conn.Bytes, chans.Key, chans.Next, chans.Recv, chans.Acked, chans.Bytes,
	packet.Bytes, packet.Parse, packet.Hash, packet.HashAck, packet.Commit, packet.Receipt, packet.AckKey, packet.Sent, packet.Told,
	transfer.Bytes, transfer.Parse, transfer.Escrow, ica.Address, ica.Bytes, ica.Parse,
	chain.Own, chain.Right, chain.Start, chain.Resume, world.New, ledger.Lines, ledger.Covered, relay.Work,
}

// stored: the calls that work on a store and leave it as it was beside an error.
var stored = []any{
	bank.Bal, bank.Supply, bank.Mint, bank.Burn, bank.Send, auth.Get, auth.Create, auth.Rekey, auth.Check, auth.Ante,
	client.NewID, client.Get, client.Trusts, client.Create, client.Update, client.Misbehave, client.Verify, client.Absent,
	conn.Get, conn.Begin, conn.Try, conn.Ack, conn.Confirm,
	chans.Get, chans.Put, chans.Begin, chans.Try, chans.Ack, chans.Confirm, chans.Close, chans.CloseConfirm,
	packet.Send, packet.Recv, packet.Write, packet.Ack, packet.Timeout,
	transfer.SetLimit, transfer.GetLimit, transfer.Send, transfer.Receive, transfer.Refund,
	fee.Get, fee.Ahead, fee.Settle, ica.Active, ica.Register, ica.Execute, ica.Receive,
}

// half: the calls that may leave a store half done beside an error.
var half = []any{chain.Do, chain.Deliver}

// objects: whose methods are called, too.
func objects(g *gen) []any {
	return []any{g.reader(), g.disk(), g.node(), g.store(), g.chain(), g.world()}
}

// gen makes arguments; a foreign one makes objects, too, that no maker has made, and nil stores: of these the calls end, and no more.
type gen struct {
	r       *rand.Rand
	worlds  []*world.World
	chains  []*chain.Chain
	foreign bool
}

func (g *gen) coin(n int) bool { return g.r.Intn(n) == 0 }

var words = []string{"", "ann", "bob", "rob", "atom", "fuel", "chan-0", "chan-1", "chan-2", "conn-0", "client-0", "transfer/chan-0/atom", "transfer/chan-1/atom", "transfer", "control", "host", "ics20", "one", "two", "a", "b", "c", "d", "escrow.chan-0", "ica.conn-0.ann", "fees", "feepool", "Bad!", "x/y", "log", "marks", "ibc/chan/chan-0", "bal/ann/atom", "007", "12", "client", "\xff\x00"}

func (g *gen) text() string {
	if g.coin(40) {
		return strings.Repeat("x", []int{31, 32, 33, 160, 161, 200, 201, 65535, 65536}[g.r.Intn(9)])
	}
	return words[g.r.Intn(len(words))]
}

func (g *gen) number() uint64 {
	switch g.r.Intn(4) {
	case 0:
		return g.r.Uint64()
	case 1:
		return []uint64{0, 1, 1<<64 - 1, 1 << 63, 1<<64 - 10, 1 << 32, 1<<32 + 1}[g.r.Intn(7)]
	}
	return uint64(g.r.Intn(40))
}

func (g *gen) store() *store.Store {
	if g.foreign && g.coin(2) {
		return []*store.Store{nil, {}}[g.r.Intn(2)]
	}
	s := rig.State(g.chains[g.r.Intn(len(g.chains))])
	if g.coin(2) { // another form here and there
		for _, p := range s.Pairs("") {
			if g.coin(6) && len(p.Value) > 0 {
				p.Value[g.r.Intn(len(p.Value))] ^= byte(g.r.Intn(256))
				s.Set(p.Key, p.Value[:g.r.Intn(len(p.Value)+1)])
			}
		}
	}
	if g.coin(2) {
		s = s.Branch()
	}
	return s
}

func (g *gen) disk() *disk.Disk {
	if g.coin(10) {
		return nil
	}
	if g.foreign && g.coin(2) {
		return new(disk.Disk)
	}
	d := disk.New()
	for range g.r.Intn(4) {
		d.Append(g.text(), []byte{1, 0, 1}[:g.r.Intn(4)])
	}
	d.Arm(g.r.Intn(9))
	return d
}

func (g *gen) node() *node.Node {
	if g.coin(10) {
		return nil
	}
	if g.foreign && g.coin(2) {
		return new(node.Node)
	}
	n, _, _ := node.Open(g.disk())
	return n
}

func (g *gen) reader() *wire.Reader {
	if g.coin(10) {
		return nil
	}
	if g.foreign && g.coin(2) {
		return new(wire.Reader)
	}
	b := make([]byte, g.r.Intn(30))
	for i := range b {
		b[i] = byte(g.r.Intn(3))
	}
	return wire.Open(b)
}

func (g *gen) chain() *chain.Chain {
	if g.coin(10) {
		return nil
	}
	if g.foreign && g.coin(2) {
		return new(chain.Chain)
	}
	return g.chains[g.r.Intn(len(g.chains))]
}

func (g *gen) world() *world.World {
	if g.coin(10) {
		return nil
	}
	if g.foreign && g.coin(2) {
		return new(world.World)
	}
	return g.worlds[g.r.Intn(len(g.worlds))]
}

// value: any value of a type; slices have room to spare, full of 0x5a where they are bytes.
func (g *gen) value(t reflect.Type) reflect.Value {
	switch t {
	case reflect.TypeOf(&store.Store{}):
		return reflect.ValueOf(g.store())
	case reflect.TypeOf(&disk.Disk{}):
		return reflect.ValueOf(g.disk())
	case reflect.TypeOf(&chain.Chain{}):
		return reflect.ValueOf(g.chain())
	case reflect.TypeOf([]byte{}):
		return reflect.ValueOf(g.bytes())
	}
	v := reflect.New(t).Elem()
	switch t.Kind() {
	case reflect.String:
		v.SetString(g.text())
	case reflect.Int:
		v.SetInt(int64(g.number()))
		if g.coin(2) {
			v.SetInt(int64(g.r.Intn(24)) - 1)
		}
	case reflect.Uint64:
		v.SetUint(g.number())
	case reflect.Bool:
		v.SetBool(g.coin(2))
	case reflect.Array:
		if g.coin(2) { // a small number, or any
			v.Index(0).SetUint(uint64(g.r.Intn(9)))
			break
		}
		for i := range v.Len() {
			v.Index(i).SetUint(g.number())
		}
	case reflect.Slice:
		n := g.r.Intn(4)
		if g.coin(40) {
			n = g.r.Intn(40)
		}
		v.Set(reflect.MakeSlice(t, n+3, n+3))
		for i := range n + 3 {
			v.Index(i).Set(g.value(t.Elem()))
		}
		v.Set(v.Slice(0, n))
	case reflect.Struct:
		for i := range v.NumField() {
			v.Field(i).Set(g.value(t.Field(i).Type))
		}
	}
	return v
}

func (g *gen) bytes() []byte {
	n := []int{0, 1, 8, 31, 32, 33, 68, 672}[g.r.Intn(8)]
	if g.coin(60) {
		n = 65536
	}
	b := bytes.Repeat([]byte{0x5a}, n+9)
	for i := range n {
		b[i] = byte(g.r.Intn(3))
	}
	if s := g.chains[0].Pairs("ibc/"); g.coin(3) && len(s) > 0 {
		x := s[g.r.Intn(len(s))].Value
		b = append(bytes.Clone(x), b...)
		n = len(x)
	}
	return b[:n]
}

// whole: a copy of a value, the spare room of its slices, too.
func whole(v reflect.Value) any {
	switch v.Kind() {
	case reflect.Slice:
		if b, ok := v.Interface().([]byte); ok {
			return string(b[:cap(b)]) + string(rune(len(b)))
		}
		var l []any
		full := v.Slice3(0, v.Cap(), v.Cap())
		for i := range full.Len() {
			l = append(l, whole(full.Index(i)))
		}
		return append(l, v.Len())
	case reflect.Struct:
		var l []any
		for i := range v.NumField() {
			l = append(l, whole(v.Field(i)))
		}
		return l
	case reflect.Pointer:
		return nil
	}
	return v.Interface()
}

// nothing: is it a zero value, a list empty?
func nothing(v reflect.Value) bool {
	switch v.Kind() {
	case reflect.Slice:
		return v.Len() == 0
	case reflect.Struct:
		if v.Type().NumField() == 0 {
			return true
		}
		for i := range v.NumField() {
			if !nothing(v.Field(i)) {
				return false
			}
		}
		return true
	}
	return v.IsZero()
}

// call calls f with any arguments, and looks at what it answers.
func (g *gen) call(t *testing.T, what string, f reflect.Value, s *store.Store) api.Errno {
	ft := f.Type()
	var args []reflect.Value
	var before []any
	for i := range ft.NumIn() {
		a := g.value(ft.In(i))
		if i == 0 && s != nil {
			a = reflect.ValueOf(s)
		}
		args = append(args, a)
		before = append(before, whole(a))
	}
	defer func() {
		if p := recover(); p != nil {
			t.Fatalf("%s panics at %v: %v", what, before, p)
		}
	}()
	var out []reflect.Value
	if ft.IsVariadic() {
		out = f.CallSlice(args)
	} else {
		out = f.Call(args)
	}
	for i, a := range args {
		if g.foreign {
			break
		}
		if !reflect.DeepEqual(whole(a), before[i]) {
			t.Fatalf("%s changed its argument %d", what, i)
		}
	}
	if len(out) == 0 {
		return api.OK
	}
	last := out[len(out)-1]
	e, isErrno := last.Interface().(api.Errno)
	failed := isErrno && e != api.OK || last.Kind() == reflect.Bool && !last.Bool()
	if failed && !g.foreign {
		for i, o := range out[:len(out)-1] {
			if !nothing(o) {
				t.Fatalf("%s answers %v (result %d) beside %v", what, o, i, last)
			}
		}
	}
	return e
}

func nameOf(i int, list string) string {
	return list + " call " + string(rune('0'+i/10)) + string(rune('0'+i%10))
}

func newGen(t *testing.T, seed int64) *gen {
	g := &gen{r: rand.New(rand.NewSource(seed))}
	p := rig.NewPlay(g.r.Intn, false)
	for range 150 {
		x := p.Step()
		if _, e := p.W.Do(x); e == api.OK && (x.Kind == 2 || x.Kind == 4) {
			p.Signed[x.On] = map[string]int{}
		}
	}
	g.worlds = []*world.World{p.W}
	g.chains = []*chain.Chain{p.W.Chain(0), p.W.Chain(1)}
	return g
}

func TestAnyArguments(t *testing.T) {
	g := newGen(t, 21)
	for i, f := range pure {
		for range 250 {
			g.call(t, nameOf(i, "pure"), reflect.ValueOf(f), nil)
		}
	}
	for i, f := range half {
		for range 400 {
			g.call(t, nameOf(i, "half"), reflect.ValueOf(f), nil)
		}
	}
	for range 30 {
		g.call(t, "sign.Root", reflect.ValueOf(sign.Root), nil)
		g.call(t, "sign.Sign", reflect.ValueOf(sign.Sign), nil)
	}
}

// A call on a store that is refused leaves it as it was.
func TestAnyArgumentsOnStores(t *testing.T) {
	g := newGen(t, 22)
	for i, f := range stored {
		for range 120 {
			s := g.store()
			before := s.Root()
			if e := g.call(t, nameOf(i, "stored"), reflect.ValueOf(f), s); e != api.OK && !bytes.Equal(before, s.Root()) {
				t.Fatalf("%s: %v changed the store", nameOf(i, "stored"), e)
			}
		}
	}
}

func TestAnyArgumentsOfMethods(t *testing.T) {
	g := newGen(t, 23)
	for range 400 {
		g.foreign = g.coin(3)
		for _, o := range objects(g) {
			v := reflect.ValueOf(o)
			m := g.r.Intn(v.NumMethod())
			g.call(t, v.Type().String()+"."+v.Type().Method(m).Name, v.Method(m), nil)
		}
	}
}

func TestForeignObjects(t *testing.T) {
	g := newGen(t, 24)
	g.foreign = true
	for _, l := range [][]any{pure, stored, half} {
		for i, f := range l {
			for range 30 {
				g.call(t, nameOf(i, "a"), reflect.ValueOf(f), nil)
			}
		}
	}
}
