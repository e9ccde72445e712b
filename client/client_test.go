package client_test

import (
	"bytes"
	"strings"
	"testing"

	"isthmus/api"
	"isthmus/client"
	"isthmus/merkle"
	"isthmus/store"
	"isthmus/vals"
	"isthmus/wire"
)

func empty() *store.Store {
	s, _ := store.New(nil)
	return s
}

func want(t *testing.T, got, e api.Errno) {
	t.Helper()
	if got != e {
		t.Error(got, "instead of", e)
	}
}

func set(names ...string) []api.Val {
	var l []api.Val
	for _, n := range names {
		l = append(l, api.Val{Name: n, Power: 1})
	}
	return l
}

var (
	four  = set("a", "b", "c", "d")
	other = set("a", "b", "c", "e")
	far   = set("w", "x", "y", "z")
	state = []api.Pair{{Key: "k", Value: []byte("v")}, {Key: "m", Value: nil}}
	three = []string{"a", "b", "c"}
)

func header(height, time uint64, now, next []api.Val) api.Header {
	root, _ := merkle.Root(state)
	return api.Header{Chain: "two", Height: height, Time: time, Root: root, Vals: vals.Hash(now), Next: vals.Hash(next)}
}

// following: a store with client-0, which trusts height 5, time 100, with four next, and a period of 50.
func following(t *testing.T) *store.Store {
	t.Helper()
	s := empty()
	id, e := client.Create(s, header(5, 100, far, four), 50, 100)
	if id != "client-0" || e != api.OK {
		t.Fatal(id, e)
	}
	return s
}

func unchanged(t *testing.T, s *store.Store, do func() api.Errno, e api.Errno) {
	t.Helper()
	before := s.Root()
	want(t, do(), e)
	if !bytes.Equal(before, s.Root()) {
		t.Error("changed")
	}
}

func TestNewIDAndHex(t *testing.T) {
	s := empty()
	if client.NewID(s, "client") != "client-0" || client.NewID(s, "client") != "client-1" || client.NewID(s, "conn") != "conn-0" {
		t.Error("NewID")
	}
	if b, _ := s.Get("ibc/n/client"); !bytes.Equal(b, wire.N(nil, 2)) {
		t.Error(b)
	}
	s.Set("ibc/n/chan", []byte{1, 2, 3})
	if client.NewID(s, "chan") != "chan-0" {
		t.Error("fewer than 8 bytes")
	}
	s.Set("ibc/n/chan", append(wire.N(nil, 77), 9, 9))
	if client.NewID(s, "chan") != "chan-77" {
		t.Error("more than 8 bytes")
	}
	if b, _ := s.Get("ibc/n/chan"); !bytes.Equal(b, wire.N(nil, 78)) {
		t.Error(b)
	}
	s.Set("ibc/n/chan", wire.N(nil, 1<<64-1))
	if client.NewID(s, "chan") != "chan-18446744073709551615" || client.NewID(s, "chan") != "chan-0" {
		t.Error("wrap round")
	}
	long := strings.Repeat("k", 300)
	if client.NewID(s, long) != long+"-0" || client.NewID(s, long) != long+"-0" {
		t.Error("a kind that no store takes")
	}
	if client.Hex(0) != "0000000000000000" || client.Hex(0xab12) != "000000000000ab12" || client.Hex(1<<64-1) != "ffffffffffffffff" {
		t.Error("Hex")
	}
}

func TestCreate(t *testing.T) {
	s := empty()
	good := header(5, 100, far, four)
	spoil := func(f func(h *api.Header)) api.Header {
		h := good
		f(&h)
		return h
	}
	cases := []struct {
		h           api.Header
		period, now uint64
		want        api.Errno
	}{
		{spoil(func(h *api.Header) { h.Chain = "Two"; h.Height = 0; h.Time = 900; h.Root = nil }), 0, 100, api.ErrName},
		{spoil(func(h *api.Header) { h.Height = 0; h.Time = 900; h.Root = nil }), 0, 100, api.ErrHeight},
		{spoil(func(h *api.Header) { h.Time = 111; h.Root = nil }), 0, 100, api.ErrTime},
		{spoil(func(h *api.Header) { h.Root = nil }), 0, 100, api.ErrArg},
		{spoil(func(h *api.Header) { h.Root = h.Root[:31] }), 1, 100, api.ErrForm},
		{spoil(func(h *api.Header) { h.Vals = append(bytes.Clone(h.Vals), 0) }), 1, 100, api.ErrForm},
		{spoil(func(h *api.Header) { h.Next = nil }), 1, 100, api.ErrForm},
		{spoil(func(h *api.Header) { h.Time = 1<<64 - 1 }), 1, 1<<64 - 12, api.ErrTime},
	}
	for _, c := range cases {
		unchanged(t, s, func() api.Errno {
			id, e := client.Create(s, c.h, c.period, c.now)
			if id != "" {
				t.Error(id)
			}
			return e
		}, c.want)
	}
	for i, c := range []struct{ time, now uint64 }{{110, 100}, {3, 100}, {1<<64 - 1, 1<<64 - 11}, {1<<64 - 1, 1<<64 - 1}, {1<<64 - 5, 1<<64 - 3}} {
		if id, e := client.Create(s, header(7, c.time, far, four), 9, c.now); e != api.OK || id != "client-"+string(rune('0'+i)) {
			t.Error(i, id, e)
		}
	}
	wantState := wire.F(wire.N(wire.N(wire.T(nil, "two"), 7), 9), false)
	if b, _ := s.Get("ibc/client/client-0"); !bytes.Equal(b, wantState) {
		t.Error(b)
	}
	wantCons := wire.B(wire.B(wire.N(nil, 110), good.Root), good.Next)
	if b, _ := s.Get("ibc/cons/client-0/0000000000000007"); !bytes.Equal(b, wantCons) {
		t.Error(b)
	}
	if c, ok := client.Get(s, "client-0"); !ok || c != (client.State{"two", 7, 9, false}) {
		t.Error(c, ok)
	}
	if c, ok := client.Trusts(s, "client-0", 7); !ok || c.Time != 110 || !bytes.Equal(c.Root, good.Root) || !bytes.Equal(c.Next, good.Next) {
		t.Error(c, ok)
	}
	if len(s.Pairs("")) != 11 {
		t.Error(len(s.Pairs("")))
	}
}

func TestGetAndTrustsOfOtherForms(t *testing.T) {
	s := following(t)
	form, _ := s.Get("ibc/client/client-0")
	cons, _ := s.Get("ibc/cons/client-0/0000000000000005")
	for i, b := range [][]byte{nil, form[:len(form)-1], append(bytes.Clone(form), 0), append(bytes.Clone(form[:len(form)-1]), 2)} {
		s.Set("ibc/client/client-0", b)
		if c, ok := client.Get(s, "client-0"); ok || c != (client.State{}) {
			t.Error(i, c)
		}
		want(t, client.Update(s, "client-0", client.News{}, 0), api.ErrClient)
	}
	for i, b := range [][]byte{nil, cons[:len(cons)-1], append(bytes.Clone(cons), 0), cons[:8]} {
		s.Set("ibc/cons/client-0/0000000000000005", b)
		if c, ok := client.Trusts(s, "client-0", 5); ok || c.Time != 0 || len(c.Root)+len(c.Next) != 0 {
			t.Error(i, c)
		}
	}
	s.Set("ibc/client/Client", form)
	s.Set("ibc/client/a/b", form)
	s.Set("ibc/client/", form)
	s.Set("ibc/cons/Client/0000000000000005", cons)
	s.Set("ibc/cons/a/0000000000000005/0000000000000005", cons)
	for _, id := range []string{"Client", "a/b", "", "client-1", strings.Repeat("a", 300)} {
		if _, ok := client.Get(s, id); ok {
			t.Error(id)
		}
		if _, ok := client.Trusts(s, id, 5); ok {
			t.Error(id)
		}
	}
	if _, ok := client.Trusts(s, "a/0000000000000005", 5); ok {
		t.Error("an identifier that is none")
	}
}

func TestUpdate(t *testing.T) {
	s := following(t)
	next := client.News{Header: header(6, 105, four, other), Vals: four, Votes: three, At: 5}
	two := next
	two.Votes = []string{"a", "b", "b", "x"}
	unchanged(t, s, func() api.Errno { return client.Update(s, "client-0", two, 105) }, api.ErrQuorum)
	want(t, client.Update(s, "client-0", next, 105), api.OK)
	if c, _ := client.Get(s, "client-0"); c != (client.State{"two", 6, 50, false}) {
		t.Error(c)
	}
	if c, ok := client.Trusts(s, "client-0", 6); !ok || c.Time != 105 || !bytes.Equal(c.Next, vals.Hash(other)) || !bytes.Equal(c.Root, next.Header.Root) {
		t.Error(c, ok)
	}
	unchanged(t, s, func() api.Errno { return client.Update(s, "client-0", next, 105) }, api.OK) // the same once more
	// of a later height: more than a third of the set that is trusted
	later := client.News{Header: header(9, 110, far, four), Vals: far, Votes: []string{"w", "x", "y"}, At: 5, Trusted: four}
	unchanged(t, s, func() api.Errno { return client.Update(s, "client-0", later, 110) }, api.ErrTrust)
	later.Votes = append(later.Votes, "a")
	unchanged(t, s, func() api.Errno { return client.Update(s, "client-0", later, 110) }, api.ErrTrust)
	later.Votes = append(later.Votes, "b")
	want(t, client.Update(s, "client-0", later, 110), api.OK)
	if c, _ := client.Get(s, "client-0"); c.Latest != 9 {
		t.Error(c)
	}
	// of a height between: the latest stays
	between := client.News{Header: header(7, 106, other, four), Vals: other, Votes: three, At: 6}
	want(t, client.Update(s, "client-0", between, 110), api.OK)
	if c, _ := client.Get(s, "client-0"); c.Latest != 9 {
		t.Error(c)
	}
	if _, ok := client.Trusts(s, "client-0", 7); !ok {
		t.Error("nothing of 7")
	}
}

// Every error of news, each with those behind it there, too; and the edges beside it.
func TestErrorsOfNews(t *testing.T) {
	good := client.News{Header: header(6, 105, four, other), Vals: four, Votes: three, At: 5, Trusted: far}
	jump := client.News{Header: header(8, 105, far, other), Vals: far, Votes: []string{"a", "b", "w", "x", "y"}, At: 5, Trusted: four}
	cases := []struct {
		what string
		base client.News
		now  uint64
		turn func(u *client.News)
		want api.Errno
	}{
		{"nothing trusted", good, 500, func(u *client.News) { u.At = 4; u.Header.Chain = "x" }, api.ErrCons},
		{"over", good, 150, func(u *client.News) { u.Header.Chain = "x" }, api.ErrExpired},
		{"long over", good, 1<<64 - 1, func(u *client.News) {}, api.ErrExpired},
		{"just not over", good, 149, func(u *client.News) {}, api.OK},
		{"now ahead of the trusted time", good, 96, func(u *client.News) {}, api.OK},
		{"another chain", good, 105, func(u *client.News) { u.Header.Chain = "x"; u.Header.Height = 5 }, api.ErrChain},
		{"the trusted height", good, 105, func(u *client.News) { u.Header.Height = 5; u.Header.Time = 100 }, api.ErrHeight},
		{"a lower height", good, 105, func(u *client.News) { u.Header.Height = 0; u.Header.Time = 100 }, api.ErrHeight},
		{"the trusted time", good, 105, func(u *client.News) { u.Header.Time = 100; u.Header.Root = nil }, api.ErrTime},
		{"an earlier time", good, 105, func(u *client.News) { u.Header.Time = 99 }, api.ErrTime},
		{"a time ahead", good, 105, func(u *client.News) { u.Header.Time = 116; u.Header.Root = nil }, api.ErrTime},
		{"a time just not too far ahead", good, 105, func(u *client.News) { u.Header.Time = 115 }, api.OK},
		{"root", good, 105, func(u *client.News) { u.Header.Root = u.Header.Root[:31]; u.Vals = nil }, api.ErrForm},
		{"vals", good, 105, func(u *client.News) { u.Header.Vals = nil; u.Vals = nil }, api.ErrForm},
		{"next", good, 105, func(u *client.News) { u.Header.Next = append(bytes.Clone(u.Header.Next), 0); u.Vals = nil }, api.ErrForm},
		{"no set", good, 105, func(u *client.News) { u.Vals = nil; u.Votes = nil }, api.ErrVals},
		{"no set, though of the hash", good, 105, func(u *client.News) {
			u.Vals = []api.Val{{Name: "b", Power: 1}, {Name: "a", Power: 1}}
			u.Header.Vals = vals.Hash(u.Vals)
		}, api.ErrVals},
		{"another set", good, 105, func(u *client.News) { u.Vals = other; u.Votes = nil }, api.ErrVals},
		{"the next height, another set", good, 105, func(u *client.News) { u.Vals = far; u.Header.Vals = vals.Hash(far); u.Votes = nil }, api.ErrTrust},
		{"the next height, Trusted doesn't count", good, 105, func(u *client.News) { u.Trusted = nil }, api.OK},
		{"the next height, Trusted and its votes don't count", good, 105, func(u *client.News) {
			u.Vals = far
			u.Header.Vals = vals.Hash(far)
			u.Trusted = four
			u.Votes = append([]string{"w", "x", "y", "z"}, three...)
		}, api.ErrTrust},
		{"too few", good, 105, func(u *client.News) { u.Votes = three[:2] }, api.ErrQuorum},
		{"a jump", jump, 105, func(u *client.News) {}, api.OK},
		{"a jump with no set", jump, 105, func(u *client.News) { u.Trusted = nil }, api.ErrTrust},
		{"a jump with another set", jump, 105, func(u *client.News) { u.Trusted = other; u.Votes = nil }, api.ErrTrust},
		{"a jump with another set that voted", jump, 105, func(u *client.News) { u.Trusted = other }, api.ErrTrust},
		{"a jump with too few", jump, 105, func(u *client.News) { u.Votes = []string{"a", "w", "x", "y"} }, api.ErrTrust},
		{"a jump with too few, and no quorum", jump, 105, func(u *client.News) { u.Votes = []string{"a", "w"} }, api.ErrTrust},
		{"a jump without a quorum", jump, 105, func(u *client.News) { u.Votes = []string{"a", "b", "w", "x"} }, api.ErrQuorum},
	}
	for _, c := range cases {
		s := following(t)
		u := c.base
		c.turn(&u)
		before := s.Root()
		if e := client.Update(s, "client-0", u, c.now); e != c.want || e != api.OK && !bytes.Equal(before, s.Root()) {
			t.Error(c.what, e)
		}
		// the same news as either of two that contradict one another
		s = following(t)
		fine := u
		fine.Header.Root = make([]byte, 32)
		if e := client.Misbehave(s, "client-0", u, fine, c.now); c.want == api.OK && e != api.OK || c.want != api.OK && e != c.want {
			t.Error(c.what, "Misbehave", e)
		}
	}
}

func TestUpdateWithATrustOfTheLastHeight(t *testing.T) {
	s := empty()
	s.Set("ibc/client/client-0", wire.F(wire.N(wire.N(wire.T(nil, "two"), 1<<64-1), 50), false))
	s.Set("ibc/cons/client-0/ffffffffffffffff", wire.B(wire.B(wire.N(nil, 100), make([]byte, 32)), vals.Hash(four)))
	u := client.News{Header: header(0, 105, four, four), Vals: four, Votes: three, At: 1<<64 - 1}
	want(t, client.Update(s, "client-0", u, 105), api.ErrHeight) // no height stands behind it
}

func TestAnotherHeaderOfAHeightFreezes(t *testing.T) {
	for i, turn := range []func(h *api.Header){func(h *api.Header) { h.Time++ }, func(h *api.Header) { h.Root = make([]byte, 32) }, func(h *api.Header) { h.Next = vals.Hash(far) }} {
		s := following(t)
		u := client.News{Header: header(6, 105, four, other), Vals: four, Votes: three, At: 5}
		want(t, client.Update(s, "client-0", u, 105), api.OK)
		w := u
		turn(&w.Header)
		want(t, client.Update(s, "client-0", w, 105), api.OK)
		if c, _ := client.Get(s, "client-0"); c != (client.State{"two", 6, 50, true}) {
			t.Error(i, c)
		}
		if c, _ := client.Trusts(s, "client-0", 6); c.Time != 105 || !bytes.Equal(c.Root, u.Header.Root) || !bytes.Equal(c.Next, u.Header.Next) {
			t.Error(i, "what it trusts of a height changed")
		}
		proof, _ := merkle.Prove(state, "k")
		unchanged(t, s, func() api.Errno { return client.Update(s, "client-0", u, 105) }, api.ErrFrozen)
		unchanged(t, s, func() api.Errno { return client.Misbehave(s, "client-0", u, w, 105) }, api.ErrFrozen)
		unchanged(t, s, func() api.Errno { return client.Verify(s, "client-0", 6, "k", []byte("v"), proof, 105) }, api.ErrFrozen)
		unchanged(t, s, func() api.Errno { return client.Absent(s, "client-0", 6, "l", proof, 105) }, api.ErrFrozen)
	}
}

func TestMisbehave(t *testing.T) {
	u := client.News{Header: header(6, 105, four, other), Vals: four, Votes: three, At: 5}
	w := u
	w.Header.Time = 106
	s := following(t)
	unchanged(t, s, func() api.Errno { return client.Misbehave(s, "client-1", u, w, 105) }, api.ErrClient)
	x := w
	x.Header.Height = 7
	unchanged(t, s, func() api.Errno { return client.Misbehave(s, "client-0", u, x, 105) }, api.ErrHeight)
	unchanged(t, s, func() api.Errno { return client.Misbehave(s, "client-0", u, u, 105) }, api.ErrArg)
	x = w
	x.Votes = nil
	unchanged(t, s, func() api.Errno { return client.Misbehave(s, "client-0", u, x, 105) }, api.ErrQuorum)
	unchanged(t, s, func() api.Errno { return client.Misbehave(s, "client-0", x, u, 105) }, api.ErrQuorum)
	y := u
	y.At = 3
	unchanged(t, s, func() api.Errno { return client.Misbehave(s, "client-0", y, x, 105) }, api.ErrCons) // the first one's error first
	unchanged(t, s, func() api.Errno { return client.Misbehave(s, "client-0", x, y, 105) }, api.ErrQuorum)
	want(t, client.Misbehave(s, "client-0", u, w, 105), api.OK)
	if c, _ := client.Get(s, "client-0"); c != (client.State{"two", 5, 50, true}) {
		t.Error(c)
	}
	if _, ok := client.Trusts(s, "client-0", 6); ok {
		t.Error("it trusts what contradicts itself")
	}
}

func TestVerifyAndAbsent(t *testing.T) {
	s := following(t)
	there, _ := merkle.Prove(state, "k")
	gone, _ := merkle.Prove(state, "l")
	verify := func(id string, height uint64, now uint64, key, value string, p api.Proof, e api.Errno) {
		t.Helper()
		unchanged(t, s, func() api.Errno { return client.Verify(s, id, height, key, []byte(value), p, now) }, e)
	}
	absent := func(id string, height uint64, now uint64, key string, p api.Proof, e api.Errno) {
		t.Helper()
		unchanged(t, s, func() api.Errno { return client.Absent(s, id, height, key, p, now) }, e)
	}
	verify("client-0", 5, 149, "k", "v", there, api.OK)
	verify("client-0", 5, 3, "k", "v", there, api.OK)
	verify("client-0", 5, 149, "k", "w", there, api.ErrProof)
	verify("client-0", 5, 149, "l", "v", there, api.ErrProof)
	verify("client-0", 5, 149, "k", "v", gone, api.ErrProof)
	verify("client-0", 4, 149, "k", "v", gone, api.ErrCons)
	verify("client-0", 4, 150, "k", "v", gone, api.ErrExpired)
	verify("client-1", 4, 150, "k", "v", gone, api.ErrClient)
	absent("client-0", 5, 149, "l", gone, api.OK)
	absent("client-0", 5, 149, "k", there, api.ErrProof)
	absent("client-0", 4, 149, "l", there, api.ErrCons)
	absent("client-0", 4, 150, "l", there, api.ErrExpired)
	absent("x", 5, 1, "l", gone, api.ErrClient)
	// the latest height tells whether the trust is over, not the one that is asked for
	want(t, client.Update(s, "client-0", client.News{Header: header(6, 140, four, other), Vals: four, Votes: three, At: 5}, 140), api.OK)
	verify("client-0", 5, 189, "k", "v", there, api.OK)
	verify("client-0", 5, 190, "k", "v", there, api.ErrExpired)
	// it trusts nothing of its latest height
	s.Del("ibc/cons/client-0/" + client.Hex(6))
	verify("client-0", 5, 110, "k", "v", there, api.ErrExpired)
	absent("client-0", 5, 110, "l", gone, api.ErrExpired)
	verify("client-0", 5, 3, "k", "v", there, api.ErrExpired) // whatever the time
	// a period of nothing is over at once
	s.Set("ibc/client/client-0", wire.F(wire.N(wire.N(wire.T(nil, "two"), 5), 0), false))
	verify("client-0", 5, 100, "k", "v", there, api.ErrExpired)
	verify("client-0", 5, 99, "k", "v", there, api.OK)
}

func TestAnswersAreNewMemory(t *testing.T) {
	s := following(t)
	c, _ := client.Trusts(s, "client-0", 5)
	_ = append(c.Root, 1, 2, 3, 4, 5, 6, 7, 8)
	c.Root[0]++
	d, _ := client.Trusts(s, "client-0", 5)
	if bytes.Equal(c.Root, d.Root) || !bytes.Equal(c.Next, vals.Hash(four)) {
		t.Error("shared")
	}
}

func TestNilStoreEnds(t *testing.T) {
	client.NewID(nil, "x")
	client.Get(nil, "client-0")
	client.Trusts(nil, "client-0", 1)
	client.Create(nil, header(5, 100, far, four), 50, 100)
	client.Update(nil, "client-0", client.News{}, 0)
	client.Misbehave(nil, "client-0", client.News{}, client.News{}, 0)
	client.Verify(nil, "client-0", 0, "", nil, api.Proof{}, 0)
	client.Absent(nil, "client-0", 0, "", api.Proof{}, 0)
}
