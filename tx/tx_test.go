package tx_test

import (
	"bytes"
	"encoding/binary"
	"math/rand"
	"reflect"
	"strings"
	"testing"

	"isthmus/api"
	"isthmus/limb"
	"isthmus/tx"
	"isthmus/wire"
)

// fill gives every field of v another value; lists have size items, texts and bytes a few bytes.
func fill(v reflect.Value, r *rand.Rand, size int) {
	switch v.Kind() {
	case reflect.String:
		b := make([]byte, r.Intn(5))
		r.Read(b)
		v.SetString(string(b))
	case reflect.Int:
		v.SetInt(r.Int63n(tx.Most + 1))
	case reflect.Uint64:
		v.SetUint(r.Uint64())
	case reflect.Bool:
		v.SetBool(r.Intn(2) == 0)
	case reflect.Uint8:
		v.SetUint(uint64(r.Intn(256)))
	case reflect.Array:
		for i := range v.Len() {
			fill(v.Index(i), r, size)
		}
	case reflect.Slice:
		n := r.Intn(size + 1)
		if n == 0 {
			return
		}
		v.Set(reflect.MakeSlice(v.Type(), n, n))
		for i := range n {
			fill(v.Index(i), r, size)
		}
	case reflect.Struct:
		for i := range v.NumField() {
			fill(v.Field(i), r, size)
		}
	}
}

// alike: are two values the same, nil and empty lists being one?
func alike(a, b any) bool {
	return same(reflect.ValueOf(a), reflect.ValueOf(b))
}

func same(a, b reflect.Value) bool {
	switch a.Kind() {
	case reflect.Slice, reflect.Array:
		if a.Len() != b.Len() {
			return false
		}
		for i := range a.Len() {
			if !same(a.Index(i), b.Index(i)) {
				return false
			}
		}
		return true
	case reflect.Struct:
		for i := range a.NumField() {
			if !same(a.Field(i), b.Field(i)) {
				return false
			}
		}
		return true
	}
	return a.Equal(b)
}

func random(r *rand.Rand) api.Tx {
	var t api.Tx
	fill(reflect.ValueOf(&t).Elem(), r, 2)
	return t
}

// The bytes of a message, field by field in the chapter's order, written a second time.
func messageBytes(m api.Msg) []byte {
	var b []byte
	n := func(x uint64) { b = binary.BigEndian.AppendUint64(b, x) }
	t := func(s string) { b = append(binary.BigEndian.AppendUint32(b, uint32(len(s))), s...) }
	u := func(a api.U) { t(string(limb.Bytes(a))) }
	head := func(h api.Header) {
		t(h.Chain)
		n(h.Height)
		n(h.Time)
		t(string(h.Root))
		t(string(h.Vals))
		t(string(h.Next))
	}
	set := func(l []api.Val) {
		n(uint64(len(l)))
		for _, v := range l {
			t(v.Name)
			n(v.Power)
		}
	}
	votes := func(l []string) {
		n(uint64(len(l)))
		for _, s := range l {
			t(s)
		}
	}
	n(uint64(m.Kind))
	t(m.To)
	t(m.Denom)
	u(m.Amt)
	t(m.Client)
	t(m.CClient)
	t(m.Conn)
	t(m.CConn)
	t(m.Chan)
	t(m.CChan)
	t(m.Port)
	t(m.CPort)
	t(m.Version)
	if m.Ordered {
		b = append(b, 1)
	} else {
		b = append(b, 0)
	}
	head(m.Header)
	head(m.Other)
	set(m.Vals)
	set(m.OtherVals)
	set(m.Trusted)
	votes(m.Votes)
	votes(m.OtherVotes)
	n(m.Height)
	n(m.Time)
	n(m.At)
	n(m.Period)
	t(m.Packet.Src)
	t(m.Packet.Dst)
	n(m.Packet.Seq)
	t(string(m.Packet.Data))
	n(m.Packet.Height)
	n(m.Packet.Time)
	t(string(m.Ack))
	n(uint64(m.Proof.N))
	n(uint64(len(m.Proof.Leaves)))
	for _, l := range m.Proof.Leaves {
		n(uint64(l.At))
		t(l.Key)
		t(string(l.Value))
		n(uint64(len(l.Path)))
		for _, x := range l.Path {
			t(string(x))
		}
	}
	n(m.Next)
	t(m.Pay.Denom)
	u(m.Pay.Recv)
	u(m.Pay.Ack)
	u(m.Pay.Timeout)
	n(uint64(len(m.Orders)))
	for _, o := range m.Orders {
		t(o.To)
		t(o.Denom)
		u(o.Amt)
	}
	return b
}

func txBytes(t api.Tx, msgs [][]byte) []byte {
	b := wire.T(nil, t.Signer)
	b = wire.N(b, t.Seq)
	b = wire.N(b, t.Gas)
	b = wire.B(b, limb.Bytes(t.Fee))
	b = wire.N(b, uint64(len(msgs)))
	for _, m := range msgs {
		b = wire.B(b, m)
	}
	return wire.B(b, t.Sig)
}

func encoded(t api.Tx) []byte {
	var msgs [][]byte
	for _, m := range t.Msgs {
		msgs = append(msgs, messageBytes(m))
	}
	return txBytes(t, msgs)
}

func TestExample(t *testing.T) {
	b, e := tx.Encode(api.Tx{})
	want := make([]byte, 68)
	want[23] = 0x20 // behind 4, 8 and 8 bytes the length of the amount
	if e != api.OK || !bytes.Equal(b, want) || tx.Cost(68, 0) != 1680 {
		t.Error(b, e)
	}
}

func TestEncodeAndDecode(t *testing.T) {
	r := rand.New(rand.NewSource(8))
	for range 300 {
		x := random(r)
		b, e := tx.Encode(x)
		if e != api.OK || !bytes.Equal(b, encoded(x)) {
			t.Fatal("Encode", x, e)
		}
		y, e := tx.Decode(b)
		if e != api.OK || !alike(x, y) {
			t.Fatal("Decode", x, y, e)
		}
		if c, e := tx.Encode(y); e != api.OK || !bytes.Equal(b, c) {
			t.Fatal("Encode of Decode", e)
		}
		if tx.Fits(x) != api.OK {
			t.Fatal("Fits")
		}
	}
}

// Every end that comes too early, and every byte that is another one, is met without a panic;
// what is taken all the same encodes to the same bytes.
func TestDecodeOfSpoiltBytes(t *testing.T) {
	r := rand.New(rand.NewSource(9))
	for range 40 {
		x := random(r)
		b, _ := tx.Encode(x)
		for i := range b {
			if y, e := tx.Decode(b[:i]); e != api.ErrShort || !alike(y, api.Tx{}) {
				t.Fatal("a prefix", i, e)
			}
			bad := bytes.Clone(b)
			bad[i] ^= byte(1 + r.Intn(255))
			y, e := tx.Decode(bad)
			if e != api.OK && !alike(y, api.Tx{}) {
				t.Fatal("beside an error", e)
			}
			if e == api.OK {
				if c, e := tx.Encode(y); e != api.OK || !bytes.Equal(c, bad) {
					t.Fatal("other bytes", e)
				}
			}
		}
		if _, e := tx.Decode(append(bytes.Clone(b), 0)); e != api.ErrTail {
			t.Fatal("a tail", e)
		}
	}
}

func TestFits(t *testing.T) {
	long := strings.Repeat("x", api.MaxField+1)
	lb := []byte(long)
	vals := make([]api.Val, 9)
	votes := make([]string, 9)
	leaf := func(l api.Leaf) api.Msg { return api.Msg{Proof: api.Proof{Leaves: []api.Leaf{{}, l}}} }
	cases := []struct {
		m    api.Msg
		want api.Errno
	}{
		{api.Msg{Kind: -1}, api.ErrArg}, {api.Msg{Kind: tx.Most + 1}, api.ErrArg}, {api.Msg{Kind: tx.Most}, api.OK},
		{api.Msg{Proof: api.Proof{N: -1}}, api.ErrArg}, {api.Msg{Proof: api.Proof{N: tx.Most + 1}}, api.ErrArg}, {api.Msg{Proof: api.Proof{N: tx.Most}}, api.OK},
		{leaf(api.Leaf{At: -1}), api.ErrArg}, {leaf(api.Leaf{At: tx.Most + 1}), api.ErrArg}, {leaf(api.Leaf{At: tx.Most}), api.OK},
		{api.Msg{Proof: api.Proof{Leaves: []api.Leaf{{}, {}, {At: -1}}}}, api.ErrArg},
		{api.Msg{Period: 1<<64 - 1, Height: 1<<64 - 1, Next: 1<<64 - 1}, api.OK}, // numbers of 64 bits may be any
		{api.Msg{Vals: vals}, api.ErrLong}, {api.Msg{OtherVals: vals}, api.ErrLong}, {api.Msg{Trusted: vals}, api.ErrLong},
		{api.Msg{Vals: vals[1:], OtherVals: vals[1:], Trusted: vals[1:], Votes: votes[1:], OtherVotes: votes[1:]}, api.OK},
		{api.Msg{Votes: votes}, api.ErrLong}, {api.Msg{OtherVotes: votes}, api.ErrLong},
		{api.Msg{Orders: make([]api.Order, 9)}, api.ErrLong}, {api.Msg{Orders: make([]api.Order, 8)}, api.OK},
		{api.Msg{Proof: api.Proof{Leaves: make([]api.Leaf, 3)}}, api.ErrLong},
		{leaf(api.Leaf{Path: make([][]byte, 18)}), api.ErrLong}, {leaf(api.Leaf{Path: make([][]byte, 17)}), api.OK},
		{api.Msg{To: long}, api.ErrLong}, {api.Msg{Denom: long}, api.ErrLong}, {api.Msg{Client: long}, api.ErrLong}, {api.Msg{CClient: long}, api.ErrLong},
		{api.Msg{Conn: long}, api.ErrLong}, {api.Msg{CConn: long}, api.ErrLong}, {api.Msg{Chan: long}, api.ErrLong}, {api.Msg{CChan: long}, api.ErrLong},
		{api.Msg{Port: long}, api.ErrLong}, {api.Msg{CPort: long}, api.ErrLong}, {api.Msg{Version: long}, api.ErrLong},
		{api.Msg{Header: api.Header{Chain: long}}, api.ErrLong}, {api.Msg{Header: api.Header{Root: lb}}, api.ErrLong}, {api.Msg{Header: api.Header{Vals: lb}}, api.ErrLong}, {api.Msg{Header: api.Header{Next: lb}}, api.ErrLong},
		{api.Msg{Other: api.Header{Chain: long}}, api.ErrLong}, {api.Msg{Other: api.Header{Root: lb}}, api.ErrLong}, {api.Msg{Other: api.Header{Vals: lb}}, api.ErrLong}, {api.Msg{Other: api.Header{Next: lb}}, api.ErrLong},
		{api.Msg{Vals: []api.Val{{}, {Name: long}}}, api.ErrLong}, {api.Msg{OtherVals: []api.Val{{Name: long}}}, api.ErrLong}, {api.Msg{Trusted: []api.Val{{Name: long}}}, api.ErrLong},
		{api.Msg{Votes: []string{"", long}}, api.ErrLong}, {api.Msg{OtherVotes: []string{long}}, api.ErrLong},
		{api.Msg{Packet: api.Packet{Src: long}}, api.ErrLong}, {api.Msg{Packet: api.Packet{Dst: long}}, api.ErrLong}, {api.Msg{Packet: api.Packet{Data: lb}}, api.ErrLong},
		{api.Msg{Ack: lb}, api.ErrLong}, {leaf(api.Leaf{Key: long}), api.ErrLong}, {leaf(api.Leaf{Value: lb}), api.ErrLong}, {leaf(api.Leaf{Path: [][]byte{{}, lb}}), api.ErrLong},
		{api.Msg{Pay: api.Pay{Denom: long}}, api.ErrLong}, {api.Msg{Orders: []api.Order{{}, {To: long}}}, api.ErrLong}, {api.Msg{Orders: []api.Order{{Denom: long}}}, api.ErrLong},
	}
	for i, c := range cases {
		x := api.Tx{Msgs: []api.Msg{{}, c.m}}
		if e := tx.Fits(x); e != c.want {
			t.Error(i, e)
		}
		b, e := tx.Encode(x)
		if e != c.want || (e != api.OK) != (len(b) == 0) {
			t.Error(i, "Encode", e)
		}
	}
	orders := []struct {
		x    api.Tx
		want api.Errno
	}{
		{api.Tx{Signer: long}, api.ErrLong}, {api.Tx{Sig: lb}, api.ErrLong}, {api.Tx{Signer: long[1:], Sig: lb[1:]}, api.OK},
		{api.Tx{Msgs: make([]api.Msg, 9)}, api.ErrMany}, {api.Tx{Msgs: make([]api.Msg, 8)}, api.OK},
		{api.Tx{Signer: long, Msgs: append(make([]api.Msg, 8), api.Msg{Kind: -1})}, api.ErrMany},
		{api.Tx{Signer: long, Msgs: []api.Msg{{To: long}, {Kind: -1}}}, api.ErrArg}, // numbers of all messages ahead of lengths
	}
	for i, c := range orders {
		if e := tx.Fits(c.x); e != c.want {
			t.Error("order", i, e)
		}
	}
}

// The message's bytes as a whole: a field's, and one more.
func TestMessageOfTheGreatestLength(t *testing.T) {
	base := len(messageBytes(api.Msg{}))
	for more, want := range []api.Errno{api.OK, api.ErrLong} {
		x := api.Tx{Msgs: []api.Msg{{Ack: make([]byte, api.MaxField-base+more)}}}
		if tx.Fits(x) != api.OK {
			t.Error("Fits")
		}
		b, e := tx.Encode(x)
		if e != want {
			t.Error(more, e)
		}
		if y, e := tx.Decode(b); want == api.OK && (e != api.OK || !alike(x, y)) {
			t.Error("Decode", e)
		}
		if s, e := tx.SignBytes("c", x); e != want || (len(s) == 0) != (e != api.OK) {
			t.Error("SignBytes", e)
		}
	}
}

func TestDecodeFaults(t *testing.T) {
	var zero api.Tx
	good := messageBytes(api.Msg{})
	with := func(at int, b ...byte) []byte {
		out := bytes.Clone(good)
		copy(out[at:], b)
		return out
	}
	one := func(m ...[]byte) []byte { return txBytes(zero, m) }
	amount := 8 + 4 + 4 // behind Kind, To, Denom
	flag := amount + 36 + 9*4
	sets := flag + 1 + 2*(4+8+8+12)
	proof := sets + 5*8 + 4*8 + (4 + 4 + 8 + 4 + 8 + 8) + 4
	orders := proof + 16 + 8 + 4 + 3*36
	if orders+8 != len(good) {
		t.Fatal("the test's own places", orders, len(good))
	}
	short := append(bytes.Clone(good[:amount]), 0, 0, 0, 31)
	short = append(append(short, make([]byte, 31)...), good[amount+36:]...)
	cases := []struct {
		what string
		b    []byte
		want api.Errno
	}{
		{"a message", one(good), api.OK},
		{"nothing", nil, api.ErrShort},
		{"a signer that is too long", []byte{0, 1, 0, 0}, api.ErrLong},
		{"a fee of 31 bytes", append(append(make([]byte, 20), 0, 0, 0, 31), make([]byte, 31)...), api.ErrForm},
		{"a fee of 33 bytes, then nothing", append(append(make([]byte, 20), 0, 0, 0, 33), make([]byte, 33)...), api.ErrForm},
		{"a fee of 33 bytes, but 32", append(append(make([]byte, 20), 0, 0, 0, 33), make([]byte, 32)...), api.ErrShort},
		{"nine messages", one(make([][]byte, 9)...), api.ErrLong},
		{"nine messages, no more bytes", wire.N(txBytes(zero, nil)[:56], 9), api.ErrLong},
		{"a message of nothing", one(nil), api.ErrShort},
		{"a kind", one(with(0, 0, 0, 0, 0, 0x40, 0, 0, 1)), api.ErrLong},
		{"the greatest kind", one(with(0, 0, 0, 0, 0, 0x40, 0, 0, 0)), api.OK},
		{"an amount of 31 bytes", one(short), api.ErrForm},
		{"a flag", one(with(flag, 2)), api.ErrForm},
		{"a flag behind an amount", one(append(bytes.Clone(short[:flag-1]), append([]byte{2}, short[flag:]...)...)), api.ErrForm},
		{"nine validators", one(with(sets+7, 9)), api.ErrLong},
		{"eight validators, but no bytes", one(with(sets+7, 8)), api.ErrLong}, // what follows is read as theirs
		{"nine votes", one(with(sets+31, 9)), api.ErrLong},
		{"N", one(with(proof, 0, 0, 0, 0, 0x40, 0, 0, 1)), api.ErrLong},
		{"N below 0", one(with(proof, 255, 255, 255, 255, 255, 255, 255, 255)), api.ErrLong},
		{"three leaves", one(with(proof+15, 3)), api.ErrLong},
		{"nine orders", one(with(orders+7, 9)), api.ErrLong},
		{"an order, but no bytes", one(with(orders+7, 1)), api.ErrShort},
		{"a byte behind a message", one(append(bytes.Clone(good), 0)), api.ErrTail},
		{"a byte behind the first message, a short second one", one(append(bytes.Clone(good), 0), good[:3]), api.ErrTail},
		{"a message's fault ahead of the whole's", one(good[:5])[:70], api.ErrShort},
		{"a message's tail, and no signature", one(append(bytes.Clone(good), 0))[:56+8+4+len(good)+1], api.ErrTail},
		{"a byte behind the whole", append(one(good), 7), api.ErrTail},
	}
	for _, c := range cases {
		x, e := tx.Decode(c.b)
		if c.what == "eight validators, but no bytes" {
			if e == api.OK {
				t.Error(c.what)
			}
			continue
		}
		if e != c.want || e != api.OK && !alike(x, zero) {
			t.Error(c.what, e)
		}
	}
	// a leaf's own numbers
	leaf := func(l api.Leaf) []byte { return one(messageBytes(api.Msg{Proof: api.Proof{Leaves: []api.Leaf{l}}})) }
	if _, e := tx.Decode(leaf(api.Leaf{At: tx.Most + 1})); e != api.ErrLong {
		t.Error("At", e)
	}
	if _, e := tx.Decode(leaf(api.Leaf{Path: make([][]byte, 18)})); e != api.ErrLong {
		t.Error("Path", e)
	}
	if _, e := tx.Decode(leaf(api.Leaf{At: tx.Most, Path: make([][]byte, 17)})); e != api.OK {
		t.Error("the greatest leaf", e)
	}
	// a fault of an amount stands ahead of one behind it
	late := append(bytes.Clone(short), 1)
	if _, e := tx.Decode(one(late)); e != api.ErrForm {
		t.Error("the first fault", e)
	}
}

// Lists of just as many as may be are taken, those of one more aren't.
func TestDecodeOfTheLongestLists(t *testing.T) {
	lists := map[string]func(more int) api.Msg{
		"Vals":       func(more int) api.Msg { return api.Msg{Vals: make([]api.Val, 8+more)} },
		"OtherVals":  func(more int) api.Msg { return api.Msg{OtherVals: make([]api.Val, 8+more)} },
		"Trusted":    func(more int) api.Msg { return api.Msg{Trusted: make([]api.Val, 8+more)} },
		"Votes":      func(more int) api.Msg { return api.Msg{Votes: make([]string, 8+more)} },
		"OtherVotes": func(more int) api.Msg { return api.Msg{OtherVotes: make([]string, 8+more)} },
		"Orders":     func(more int) api.Msg { return api.Msg{Orders: make([]api.Order, 8+more)} },
		"Leaves":     func(more int) api.Msg { return api.Msg{Proof: api.Proof{Leaves: make([]api.Leaf, 2+more)}} },
		"Path": func(more int) api.Msg {
			return api.Msg{Proof: api.Proof{Leaves: []api.Leaf{{}, {Path: make([][]byte, 17+more)}}}}
		},
	}
	for what, list := range lists {
		x := api.Tx{Msgs: []api.Msg{list(0)}}
		if y, e := tx.Decode(encoded(x)); e != api.OK || !alike(x, y) {
			t.Error(what, e)
		}
		if y, e := tx.Decode(encoded(api.Tx{Msgs: []api.Msg{list(1)}})); e != api.ErrLong || !alike(y, api.Tx{}) {
			t.Error(what, "one more", e)
		}
	}
	x := api.Tx{Msgs: make([]api.Msg, 8)}
	if y, e := tx.Decode(encoded(x)); e != api.OK || !alike(x, y) {
		t.Error("messages", e)
	}
	if _, e := tx.Decode(encoded(api.Tx{Msgs: make([]api.Msg, 9)})); e != api.ErrLong {
		t.Error("messages, one more", e)
	}
	long := append(wire.N(txBytes(api.Tx{}, nil)[:56], 1), 0, 1, 0, 0)
	if _, e := tx.Decode(long); e != api.ErrLong {
		t.Error("a message that is too long", e)
	}
	if tx.Most != 1<<30 || tx.Leaves != 2 || tx.Path != 17 {
		t.Error("the limits")
	}
}

// A field may be as long as fields may be, though the message is too long then.
func TestFieldsOfTheGreatestLength(t *testing.T) {
	for i, m := range []api.Msg{{To: strings.Repeat("x", api.MaxField)}, {Ack: make([]byte, api.MaxField)}, {Votes: []string{strings.Repeat("x", api.MaxField)}}} {
		x := api.Tx{Msgs: []api.Msg{m}}
		if e := tx.Fits(x); e != api.OK {
			t.Error(i, e)
		}
		if _, e := tx.Encode(x); e != api.ErrLong {
			t.Error(i, e)
		}
	}
}

func TestSignBytes(t *testing.T) {
	r := rand.New(rand.NewSource(10))
	for range 50 {
		x := random(r)
		plain := x
		plain.Sig = nil
		want := wire.B(wire.T(nil, "one"), encoded(plain))
		got, e := tx.SignBytes("one", x)
		if e != api.OK || !bytes.Equal(got, want) {
			t.Fatal(e)
		}
		x.Sig = append(x.Sig, 1, 2, 3)
		if again, _ := tx.SignBytes("one", x); !bytes.Equal(got, again) {
			t.Fatal("the signature counts")
		}
		if other, _ := tx.SignBytes("two", x); bytes.Equal(got, other) {
			t.Fatal("the chain doesn't count")
		}
		x.Seq++
		if other, _ := tx.SignBytes("one", x); bytes.Equal(got, other) {
			t.Fatal("the number doesn't count")
		}
	}
	for want, x := range map[api.Errno]api.Tx{api.ErrMany: {Msgs: make([]api.Msg, 9)}, api.ErrArg: {Msgs: []api.Msg{{Kind: -1}}}, api.ErrLong: {Signer: strings.Repeat("x", 65536)}} {
		if b, e := tx.SignBytes("c", x); e != want || len(b) != 0 {
			t.Error(e)
		}
	}
	if _, e := tx.SignBytes("c", api.Tx{Sig: make([]byte, 70000)}); e != api.OK {
		t.Error("a signature that is too long doesn't count", e)
	}
}

func TestCost(t *testing.T) {
	cases := []struct {
		size, msgs int
		want       uint64
	}{{0, 0, 1000}, {68, 0, 1680}, {1, 1, 1510}, {-5, -7, 1000}, {-1 << 63, 2, 2000}, {3, -1 << 63, 1030}, {1<<63 - 1, 0, 1000 - 10}, {0, 1<<63 - 1, 1000 - 500}}
	for _, c := range cases {
		if got := tx.Cost(c.size, c.msgs); got != c.want {
			t.Error(c, got)
		}
	}
}

func TestMemoryIsNew(t *testing.T) {
	x := api.Tx{Msgs: []api.Msg{{Ack: []byte{1, 2}, Packet: api.Packet{Data: []byte{3, 4}}}}, Sig: []byte{5, 6}}
	b, _ := tx.Encode(x)
	keep := bytes.Clone(b)
	y, _ := tx.Decode(b)
	clear(b)
	z, _ := tx.Decode(keep)
	if !alike(y, x) || !alike(z, x) {
		t.Error("the answer shares the bytes")
	}
	_ = append(y.Msgs[0].Ack, 9, 9, 9, 9, 9, 9, 9, 9)
	_ = append(y.Msgs[0].Packet.Data, 9, 9, 9, 9, 9, 9, 9, 9)
	if !alike(y, z) {
		t.Error("the answer's parts share memory")
	}
}
