package store_test

import (
	"bytes"
	"maps"
	"math/rand"
	"slices"
	"strconv"
	"strings"
	"testing"

	"isthmus/api"
	"isthmus/merkle"
	"isthmus/store"
)

func pair(key string, value ...byte) api.Pair {
	return api.Pair{Key: key, Value: value}
}

func made(t *testing.T, pairs ...api.Pair) *store.Store {
	t.Helper()
	s, e := store.New(pairs)
	if e != api.OK || s == nil {
		t.Fatal(e)
	}
	return s
}

func same(a []api.Pair, b ...api.Pair) bool {
	return slices.EqualFunc(a, b, func(x, y api.Pair) bool {
		return x.Key == y.Key && bytes.Equal(x.Value, y.Value)
	})
}

func TestNew(t *testing.T) {
	long := strings.Repeat("k", api.MaxKey)
	big := make([]byte, api.MaxField)
	s := made(t, pair("a", 1), pair("aa"), pair("b", 2), api.Pair{Key: long, Value: big})
	if !same(s.Pairs(""), pair("a", 1), pair("aa"), pair("b", 2), api.Pair{Key: long, Value: big}) {
		t.Error(len(s.Pairs("")))
	}
	for i, l := range [][]api.Pair{{pair("")}, {pair("b"), pair("a")}, {pair("a"), pair("a")}, {pair(long + "k")}, {{Key: "a", Value: append(big, 1)}}, {pair("a"), pair("c"), pair("b")}} {
		if s, e := store.New(l); s != nil || e != api.ErrKey {
			t.Error(i, e)
		}
	}
	made(t)
}

func TestGetSetDelPairsRoot(t *testing.T) {
	s := made(t)
	for i, c := range []struct {
		key  string
		size int
		want api.Errno
	}{{"", 0, api.ErrKey}, {strings.Repeat("k", 201), 0, api.ErrKey}, {"a", api.MaxField + 1, api.ErrKey}, {strings.Repeat("k", 200), api.MaxField, api.OK}, {"a", 0, api.OK}, {"\xff\x00", 1, api.OK}} {
		if e := s.Set(c.key, make([]byte, c.size)); e != c.want {
			t.Error(i, e)
		}
		if v, ok := s.Get(c.key); ok != (c.want == api.OK) || ok && len(v) != c.size || !ok && len(v) != 0 {
			t.Error(i, len(v), ok)
		}
	}
	s = made(t, pair("a/1", 1), pair("a/2", 2), pair("b", 3))
	s.Set("a/10", []byte{4})
	s.Set("a", []byte{5})
	s.Set("b", []byte{6})
	if !same(s.Pairs("a/"), pair("a/1", 1), pair("a/10", 4), pair("a/2", 2)) || !same(s.Pairs("c")) || !same(s.Pairs("b"), pair("b", 6)) {
		t.Error(s.Pairs("a/"))
	}
	s.Del("a/1")
	s.Del("nope")
	s.Del("")
	if _, ok := s.Get("a/1"); ok || !same(s.Pairs(""), pair("a", 5), pair("a/10", 4), pair("a/2", 2), pair("b", 6)) {
		t.Error(s.Pairs(""))
	}
	want, _ := merkle.Root(s.Pairs(""))
	if !bytes.Equal(s.Root(), want) || len(want) != 32 {
		t.Error("Root")
	}
	none, _ := merkle.Root(nil)
	if !bytes.Equal(made(t).Root(), none) {
		t.Error("Root of nothing")
	}
}

func TestBranchExample(t *testing.T) {
	s := made(t, pair("a", 1), pair("b", 2))
	b := s.Branch()
	b.Set("c", []byte{3})
	b.Del("a")
	if !same(b.Pairs(""), pair("b", 2), pair("c", 3)) || !same(s.Pairs(""), pair("a", 1), pair("b", 2)) {
		t.Error(b.Pairs(""), s.Pairs(""))
	}
	if _, ok := b.Get("a"); ok {
		t.Error("a is there still")
	}
	want, _ := merkle.Root(b.Pairs(""))
	if !bytes.Equal(b.Root(), want) {
		t.Error("a branch's root")
	}
	b.Write()
	if !same(s.Pairs(""), pair("b", 2), pair("c", 3)) {
		t.Error(s.Pairs(""))
	}
	s.Write() // of what New made: nothing
	if !same(s.Pairs(""), pair("b", 2), pair("c", 3)) {
		t.Error(s.Pairs(""))
	}
}

// A branch that was written has nothing of its own: what the parent does behind that is seen in it.
func TestBranchIsUsedOn(t *testing.T) {
	s := made(t, pair("a", 1))
	b := s.Branch()
	b.Set("x", []byte{1})
	b.Del("a")
	b.Write()
	s.Set("x", []byte{2})
	s.Set("a", []byte{3})
	if !same(b.Pairs(""), pair("a", 3), pair("x", 2)) {
		t.Error(b.Pairs(""))
	}
	b.Del("x")
	b.Write()
	if !same(s.Pairs(""), pair("a", 3)) {
		t.Error(s.Pairs(""))
	}
	s.Del("a")
	b.Write()
	if !same(s.Pairs("")) {
		t.Error("an empty branch wrote", s.Pairs(""))
	}
}

// What is done in the parent is seen in the branch, but for keys that were set or deleted there.
func TestParentBesideItsBranch(t *testing.T) {
	s := made(t, pair("a", 1), pair("b", 1), pair("c", 1))
	b := s.Branch()
	b.Set("a", []byte{2})
	b.Del("b")
	s.Set("a", []byte{9})
	s.Set("b", []byte{9})
	s.Set("c", []byte{9})
	s.Set("e", []byte{9})
	if !same(b.Pairs(""), pair("a", 2), pair("c", 9), pair("e", 9)) {
		t.Error(b.Pairs(""))
	}
	s.Del("a")
	s.Del("c")
	if !same(b.Pairs(""), pair("a", 2), pair("e", 9)) {
		t.Error(b.Pairs(""))
	}
	b.Set("b", []byte{3})
	b.Write()
	if !same(s.Pairs(""), pair("a", 2), pair("b", 3), pair("e", 9)) {
		t.Error(s.Pairs(""))
	}
}

func TestTwoBranchesAndForgetting(t *testing.T) {
	s := made(t, pair("a", 1))
	b, c := s.Branch(), s.Branch()
	b.Set("a", []byte{2})
	c.Set("b", []byte{3})
	if !same(c.Pairs(""), pair("a", 1), pair("b", 3)) {
		t.Error(c.Pairs(""))
	}
	c.Write()
	if !same(b.Pairs(""), pair("a", 2), pair("b", 3)) || !same(s.Pairs(""), pair("a", 1), pair("b", 3)) {
		t.Error("a branch that isn't written", b.Pairs(""), s.Pairs(""))
	}
}

// layer: the model of a store, whole.
func overlay(parent map[string][]byte, own map[string][]byte) map[string][]byte {
	out := maps.Clone(parent)
	for k, v := range own {
		if v == nil {
			delete(out, k)
		} else {
			out[k] = v
		}
	}
	return out
}

func TestBranchesOfBranchesAgainstAModel(t *testing.T) {
	r := rand.New(rand.NewSource(6))
	for range 200 {
		stores := []*store.Store{made(t)}
		own := []map[string][]byte{{}}
		for range 60 {
			i := r.Intn(len(stores))
			key := "k" + strconv.Itoa(r.Intn(6))
			switch r.Intn(5) {
			case 0, 1:
				v := []byte{byte(r.Intn(256))}
				stores[i].Set(key, v)
				own[i][key] = v
			case 2:
				stores[i].Del(key)
				own[i][key] = nil
				if i == 0 {
					delete(own[0], key)
				}
			case 3:
				stores[i].Write()
				if i > 0 {
					maps.Copy(own[i-1], own[i])
					own[i] = map[string][]byte{}
					if i == 1 {
						maps.DeleteFunc(own[0], func(_ string, v []byte) bool { return v == nil })
					}
				}
			case 4:
				if len(stores) < 5 {
					stores = append(stores, stores[len(stores)-1].Branch())
					own = append(own, map[string][]byte{})
				}
			}
			seen := map[string][]byte{}
			for j, s := range stores {
				seen = overlay(seen, own[j])
				var want []api.Pair
				for _, k := range slices.Sorted(maps.Keys(seen)) {
					want = append(want, api.Pair{Key: k, Value: seen[k]})
				}
				if !same(s.Pairs(""), want...) {
					t.Fatal(j, s.Pairs(""), want)
				}
				v, ok := s.Get(key)
				if _, there := seen[key]; ok != there || !bytes.Equal(v, seen[key]) {
					t.Fatal(j, key, v)
				}
			}
		}
	}
}

func TestDeepBranches(t *testing.T) {
	s := made(t, pair("a", 1))
	for range 5000 {
		s = s.Branch()
	}
	s.Set("b", []byte{2})
	if !same(s.Pairs(""), pair("a", 1), pair("b", 2)) {
		t.Error(s.Pairs(""))
	}
}

func TestMemoryIsNew(t *testing.T) {
	value := []byte{1, 2, 3}
	s := made(t, api.Pair{Key: "a", Value: value})
	value[0] = 9
	got, _ := s.Get("a")
	got[1] = 9
	l := s.Pairs("")
	l[0].Value[2] = 9
	if v, _ := s.Get("a"); !bytes.Equal(v, []byte{1, 2, 3}) {
		t.Error(v)
	}
	s.Set("b", value)
	value[1] = 8
	b := s.Branch()
	x := []byte{7}
	b.Set("c", x)
	x[0] = 8
	v, _ := b.Get("c")
	b.Write()
	v[0] = 5
	if !same(s.Pairs("b"), pair("b", 9, 2, 3)) || !same(s.Pairs("c"), pair("c", 7)) {
		t.Error(s.Pairs(""))
	}
}

func TestNilStore(t *testing.T) {
	var s *store.Store
	if v, ok := s.Get("a"); ok || len(v) != 0 {
		t.Error("Get")
	}
	if s.Set("a", nil) != api.ErrNil || s.Set("", nil) != api.ErrNil || s.Pairs("") != nil || s.Root() != nil || s.Branch() != nil {
		t.Error("nil store")
	}
	s.Del("a")
	s.Write()
}

// Of stores that no maker has made the calls end.
func TestForeignStoresEnd(t *testing.T) {
	use := func(s *store.Store) {
		s.Get("a")
		s.Set("a", nil)
		s.Del("a")
		s.Pairs("")
		s.Root()
		s.Branch()
		s.Write()
	}
	copied := *made(t, pair("a", 1))
	use(&copied)
	use(new(store.Store))
	s := made(t)
	b := s.Branch()
	*s = *b // a store that is its own parent
	use(s)
	use(b)
}
