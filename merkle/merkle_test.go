package merkle_test

import (
	"bytes"
	"crypto/sha256"
	"encoding/binary"
	"strconv"
	"strings"
	"testing"

	"isthmus/api"
	"isthmus/merkle"
)

// h: the chapter's H, written a second time.
func h(word string, parts ...[]byte) []byte {
	put := func(b, x []byte) []byte {
		return append(binary.BigEndian.AppendUint32(b, uint32(len(x))), x...)
	}
	b := put(nil, []byte(word))
	for _, p := range parts {
		b = put(b, p)
	}
	sum := sha256.Sum256(b)
	return sum[:]
}

func n(x int) []byte {
	return binary.BigEndian.AppendUint64(nil, uint64(x))
}

func leafOf(p api.Pair) []byte { return h("leaf", []byte(p.Key), p.Value) }

func cut(count int) int {
	k := 1
	for 2*k < count {
		k *= 2
	}
	return k
}

// row: as the chapter says it, cut at the greatest power of two.
func row(l []api.Pair) []byte {
	if len(l) == 1 {
		return leafOf(l[0])
	}
	k := cut(len(l))
	return h("node", row(l[:k]), row(l[k:]))
}

// way: the hashes of the rows beside a leaf, from the leaf up.
func way(l []api.Pair, i int) [][]byte {
	if len(l) == 1 {
		return nil
	}
	k := cut(len(l))
	if i < k {
		return append(way(l[:k], i), row(l[k:]))
	}
	return append(way(l[k:], i-k), row(l[:k]))
}

func some(count int) []api.Pair {
	var l []api.Pair
	for i := range count {
		l = append(l, api.Pair{Key: "k" + strconv.Itoa(1000+2*i), Value: []byte("v" + strconv.Itoa(i))})
	}
	return l
}

func root(l []api.Pair) []byte {
	if len(l) == 0 {
		return h("root", n(0))
	}
	return h("root", n(len(l)), row(l))
}

func TestRootExamples(t *testing.T) {
	a, b, c := api.Pair{Key: "a", Value: []byte{1}}, api.Pair{Key: "b"}, api.Pair{Key: "c", Value: []byte{3}}
	if got, e := merkle.Root([]api.Pair{a}); e != api.OK || !bytes.Equal(got, h("root", n(1), leafOf(a))) {
		t.Error(got, e)
	}
	if got, e := merkle.Root([]api.Pair{a, b, c}); e != api.OK || !bytes.Equal(got, h("root", n(3), h("node", h("node", leafOf(a), leafOf(b)), leafOf(c)))) {
		t.Error(got, e)
	}
	p, e := merkle.Prove([]api.Pair{a, b, c}, "a")
	if e != api.OK || p.N != 3 || len(p.Leaves) != 1 || len(p.Leaves[0].Path) != 2 || !bytes.Equal(p.Leaves[0].Path[0], leafOf(b)) || !bytes.Equal(p.Leaves[0].Path[1], leafOf(c)) {
		t.Error(p, e)
	}
	p, e = merkle.Prove([]api.Pair{a, b, c}, "c")
	if e != api.OK || len(p.Leaves) != 1 || len(p.Leaves[0].Path) != 1 || !bytes.Equal(p.Leaves[0].Path[0], h("node", leafOf(a), leafOf(b))) {
		t.Error(p, e)
	}
	p, _ = merkle.Prove([]api.Pair{a, c}, "b")
	if p.N != 2 || len(p.Leaves) != 2 || p.Leaves[0].At != 0 || p.Leaves[1].At != 1 {
		t.Error(p)
	}
	p, _ = merkle.Prove([]api.Pair{a, c}, "0")
	if len(p.Leaves) != 1 || p.Leaves[0].At != 0 {
		t.Error(p)
	}
	p, _ = merkle.Prove([]api.Pair{a, c}, "d")
	if len(p.Leaves) != 1 || p.Leaves[0].At != 1 {
		t.Error(p)
	}
	p, e = merkle.Prove(nil, "d")
	if p.N != 0 || len(p.Leaves) != 0 || e != api.OK {
		t.Error(p, e)
	}
}

func TestRootsWaysAndProofsOfAllSizes(t *testing.T) {
	for size := range 36 {
		l := some(size)
		r, e := merkle.Root(l)
		if e != api.OK || !bytes.Equal(r, root(l)) {
			t.Fatal("Root", size, e)
		}
		for i, p := range l {
			proof, e := merkle.Prove(l, p.Key)
			if e != api.OK || proof.N != size || len(proof.Leaves) != 1 || proof.Leaves[0].At != i || proof.Leaves[0].Key != p.Key || !bytes.Equal(proof.Leaves[0].Value, p.Value) {
				t.Fatal(size, i, proof, e)
			}
			want := way(l, i)
			if len(want) != len(proof.Leaves[0].Path) {
				t.Fatal("way", size, i)
			}
			for j := range want {
				if !bytes.Equal(want[j], proof.Leaves[0].Path[j]) {
					t.Fatal("way", size, i, j)
				}
			}
			if !merkle.Verify(r, p.Key, p.Value, proof) || merkle.Absent(r, p.Key, proof) {
				t.Error("Verify", size, i)
			}
		}
		for i := 0; i <= size; i++ {
			key := "k" + strconv.Itoa(999+2*i)
			if i == 0 {
				key = "j"
			}
			proof, e := merkle.Prove(l, key)
			if e != api.OK || !merkle.Absent(r, key, proof) || proof.N != size {
				t.Error("Absent", size, i, e)
			}
			var at []int
			for _, leaf := range proof.Leaves {
				at = append(at, leaf.At)
			}
			switch {
			case size == 0 && len(at) == 0:
			case i == 0 && len(at) == 1 && at[0] == 0:
			case i == size && len(at) == 1 && at[0] == size-1:
			case len(at) == 2 && at[0] == i-1 && at[1] == i:
			default:
				t.Error("neighbours", size, i, at)
			}
			if merkle.Verify(r, key, nil, proof) {
				t.Error("Verify of what isn't there", size, i)
			}
		}
	}
}

func TestPairsOutOfOrder(t *testing.T) {
	long := strings.Repeat("k", api.MaxKey)
	big := make([]byte, api.MaxField)
	right := [][]api.Pair{nil, {{Key: "a"}, {Key: "aa"}, {Key: "b"}}, {{Key: long, Value: big}}, {{Key: "\x00"}, {Key: "\xff"}}, {{Key: "Z"}, {Key: "a"}}}
	wrong := [][]api.Pair{{{Key: ""}}, {{Key: "b"}, {Key: "a"}}, {{Key: "a"}, {Key: "a"}}, {{Key: "aa"}, {Key: "a"}}, {{Key: long + "k"}}, {{Key: "a", Value: append(big, 0)}}, {{Key: "a"}, {Key: "c"}, {Key: "b"}}}
	for i, l := range append(right, wrong...) {
		want := api.OK
		if i >= len(right) {
			want = api.ErrKey
		}
		r, e := merkle.Root(l)
		p, e2 := merkle.Prove(l, "q")
		if e != want || e2 != want || (want == api.OK) != (len(r) == 32) {
			t.Error(i, r, e, e2)
		}
		if want != api.OK && (p.N != 0 || len(p.Leaves) != 0) {
			t.Error(i, p)
		}
	}
	for _, key := range []string{"", long + "k"} {
		if p, e := merkle.Prove(some(3), key); e != api.ErrKey || p.N != 0 || len(p.Leaves) != 0 {
			t.Error(key, e)
		}
	}
	if _, e := merkle.Prove(some(3), long); e != api.OK {
		t.Error(e)
	}
}

func TestManyPairs(t *testing.T) {
	l := make([]api.Pair, api.MaxLeaves+1)
	for i := range l {
		l[i].Key = string([]byte{byte(i >> 16), byte(i >> 8), byte(i)})
	}
	if _, e := merkle.Root(l); e != api.ErrKey {
		t.Error("65537 pairs", e)
	}
	r, e := merkle.Root(l[:api.MaxLeaves])
	p, e2 := merkle.Prove(l[:api.MaxLeaves], l[77].Key)
	if e != api.OK || e2 != api.OK || len(p.Leaves[0].Path) != 16 || !merkle.Verify(r, l[77].Key, nil, p) {
		t.Error("65536 pairs", e, e2)
	}
}

func clone(p api.Proof) api.Proof {
	q := api.Proof{N: p.N}
	for _, l := range p.Leaves {
		l.Value = bytes.Clone(l.Value)
		var path [][]byte
		for _, x := range l.Path {
			path = append(path, bytes.Clone(x))
		}
		l.Path = path
		q.Leaves = append(q.Leaves, l)
	}
	return q
}

func TestVerifyRefuses(t *testing.T) {
	l := some(7)
	r, _ := merkle.Root(l)
	good, _ := merkle.Prove(l, l[6].Key)
	key, value := l[6].Key, l[6].Value
	bad := map[string]func(p *api.Proof){
		"N more":       func(p *api.Proof) { p.N++ },
		"N less":       func(p *api.Proof) { p.N-- },
		"N 0":          func(p *api.Proof) { p.N = 0 },
		"N huge":       func(p *api.Proof) { p.N = 1 << 62 },
		"N below 0":    func(p *api.Proof) { p.N = -1 },
		"At":           func(p *api.Proof) { p.Leaves[0].At = 5 },
		"At N":         func(p *api.Proof) { p.Leaves[0].At = 7 },
		"At below 0":   func(p *api.Proof) { p.Leaves[0].At = -1 },
		"key":          func(p *api.Proof) { p.Leaves[0].Key += "x" },
		"value":        func(p *api.Proof) { p.Leaves[0].Value = []byte("w") },
		"path longer":  func(p *api.Proof) { p.Leaves[0].Path = append(p.Leaves[0].Path, make([]byte, 32)) },
		"path shorter": func(p *api.Proof) { p.Leaves[0].Path = p.Leaves[0].Path[:1] },
		"no path":      func(p *api.Proof) { p.Leaves[0].Path = nil },
		"hash":         func(p *api.Proof) { p.Leaves[0].Path[1][31] ^= 1 },
		"hash shorter": func(p *api.Proof) { p.Leaves[0].Path[1] = p.Leaves[0].Path[1][:31] },
		"no leaf":      func(p *api.Proof) { p.Leaves = nil },
		"two leaves":   func(p *api.Proof) { p.Leaves = append(p.Leaves, p.Leaves[0]) },
	}
	for what, spoil := range bad {
		p := clone(good)
		spoil(&p)
		if merkle.Verify(r, key, value, p) {
			t.Error(what)
		}
	}
	if !merkle.Verify(r, key, value, clone(good)) {
		t.Error("the proof itself")
	}
	if merkle.Verify(r, l[5].Key, value, good) || merkle.Verify(r, key, nil, good) || merkle.Verify(r[:31], key, value, good) || merkle.Verify(nil, key, value, good) || merkle.Verify(append(bytes.Clone(r), 0), key, value, good) {
		t.Error("another key, value or root")
	}
}

// Leaves whose hash is right, but whose key or value is no pair's.
func TestLeavesOutsideTheLimits(t *testing.T) {
	one := func(p api.Pair) ([]byte, api.Proof) {
		return h("root", n(1), leafOf(p)), api.Proof{N: 1, Leaves: []api.Leaf{{Key: p.Key, Value: p.Value}}}
	}
	long := strings.Repeat("k", api.MaxKey+1)
	for i, p := range []api.Pair{{Key: ""}, {Key: long}} {
		r, proof := one(p)
		if merkle.Verify(r, p.Key, p.Value, proof) || merkle.Absent(r, "zz", proof) || merkle.Absent(r, "0", proof) {
			t.Error(i)
		}
	}
	r, proof := one(api.Pair{Key: "a", Value: make([]byte, api.MaxField)})
	proof.Leaves[0].Value = make([]byte, api.MaxField+1) // H cuts it to the same hash
	if merkle.Verify(r, "a", proof.Leaves[0].Value, proof) || merkle.Absent(r, "b", proof) {
		t.Error("a value that is too long")
	}
}

// Leaves whose hashes give the root, but whose numbers, or hashes beside them, are none.
func TestLeavesOfOtherNumbers(t *testing.T) {
	p := api.Pair{Key: "k", Value: []byte{1}}
	beside := h("beside")
	both := h("node", leafOf(p), beside)
	other := h("node", beside, leafOf(p))
	cases := []struct {
		root []byte
		n    int
		at   int
		path [][]byte
		want bool
	}{
		{h("root", n(1), leafOf(p)), 1, 0, nil, true},
		{h("root", n(1), leafOf(p)), 1, 1, nil, false},
		{h("root", n(1), leafOf(p)), 1, -1, nil, false},
		{h("root", n(0), leafOf(p)), 0, 0, nil, false},
		{h("root", n(0), leafOf(p)), 0, -1, nil, false},
		{h("root", n(-1), leafOf(p)), -1, 0, nil, false},
		{h("root", n(-1), leafOf(p)), -1, -2, nil, false},
		{h("root", n(2), both), 2, 0, [][]byte{beside}, true},
		{h("root", n(2), other), 2, 1, [][]byte{beside}, true},
		{h("root", n(2), leafOf(p)), 2, 2, nil, false},
		{h("root", n(2), both), 2, 2, [][]byte{beside}, false},
		{h("root", n(2), other), 2, -1, [][]byte{beside}, false},
		{h("root", n(3), other), 3, 2, [][]byte{beside}, true},
		{h("root", n(3), other), 3, 3, [][]byte{beside}, false},
		{h("root", n(65536), other), 65536, 65535, [][]byte{beside}, false},
		{h("root", n(65537), other), 65537, 65536, [][]byte{beside}, false},
		{h("root", n(2), h("node", leafOf(p), beside[:31])), 2, 0, [][]byte{beside[:31]}, false},
		{h("root", n(2), h("node", leafOf(p), nil)), 2, 0, [][]byte{nil}, false},
		{h("root", n(2), h("node", append(bytes.Clone(beside), 0), leafOf(p))), 2, 1, [][]byte{append(bytes.Clone(beside), 0)}, false},
	}
	for i, c := range cases {
		proof := api.Proof{N: c.n, Leaves: []api.Leaf{{At: c.at, Key: p.Key, Value: p.Value, Path: c.path}}}
		if merkle.Verify(c.root, p.Key, p.Value, proof) != c.want {
			t.Error(i)
		}
		if c.at == 0 && merkle.Absent(c.root, "a", proof) != c.want || c.at == c.n-1 && merkle.Absent(c.root, "z", proof) != c.want {
			t.Error(i, "Absent")
		}
	}
	big := api.Pair{Key: "k", Value: make([]byte, api.MaxField)}
	proof := api.Proof{N: 1, Leaves: []api.Leaf{{Key: "k", Value: big.Value}}}
	if !merkle.Verify(h("root", n(1), leafOf(big)), "k", big.Value, proof) {
		t.Error("the longest value")
	}
}

func TestAbsentRefuses(t *testing.T) {
	l := some(6)
	r, _ := merkle.Root(l)
	key := "k1005" // between 2 and 3
	good, _ := merkle.Prove(l, key)
	if !merkle.Absent(r, key, good) {
		t.Fatal("the proof itself")
	}
	leaf := func(i int) api.Leaf {
		p, _ := merkle.Prove(l, l[i].Key)
		return p.Leaves[0]
	}
	of := func(at ...int) api.Proof {
		p := api.Proof{N: 6}
		for _, i := range at {
			p.Leaves = append(p.Leaves, leaf(i))
		}
		return p
	}
	for i, p := range []api.Proof{of(), of(2), of(3), of(3, 2), of(1, 3), of(2, 4), of(1, 2), of(3, 4), of(0), of(5), of(2, 3, 4), of(2, 2), {}, {N: 6}} {
		if merkle.Absent(r, key, p) {
			t.Error(i)
		}
	}
	edges := []struct {
		key  string
		p    api.Proof
		want bool
	}{
		{"a", of(0), true}, {"z", of(5), true}, {"a", of(5), false}, {"z", of(0), false}, {"a", of(1), false}, {"z", of(4), false},
		{l[0].Key, of(0), false}, {l[5].Key, of(5), false}, {l[2].Key, of(1, 2), false}, {l[2].Key, of(2, 3), false}, {l[2].Key, of(1, 3), false},
		{"", of(0), false}, {strings.Repeat("z", 201), of(5), false}, {strings.Repeat("z", 200), of(5), true},
	}
	for i, c := range edges {
		if merkle.Absent(r, c.key, c.p) != c.want {
			t.Error("edge", i)
		}
	}
	none, _ := merkle.Root(nil)
	if !merkle.Absent(none, "a", api.Proof{}) || merkle.Absent(none, "", api.Proof{}) || merkle.Absent(none, "a", api.Proof{N: 1}) || merkle.Absent(r, "a", api.Proof{}) || merkle.Absent(nil, "a", api.Proof{}) || merkle.Absent(none, "a", api.Proof{Leaves: []api.Leaf{{}}}) || merkle.Absent(none, strings.Repeat("a", 201), api.Proof{}) {
		t.Error("no pairs")
	}
	spoilt := clone(good)
	spoilt.Leaves[1].Path[0][0] ^= 1
	if merkle.Absent(r, key, spoilt) {
		t.Error("the second leaf doesn't hold")
	}
	spoilt = clone(good)
	spoilt.Leaves[0].Value = nil
	if merkle.Absent(r, key, spoilt) {
		t.Error("the first leaf doesn't hold")
	}
	spoilt = clone(good)
	spoilt.N = 5
	if merkle.Absent(r, key, spoilt) {
		t.Error("another N")
	}
	wild := api.Proof{N: 6, Leaves: []api.Leaf{{At: 1<<63 - 1}, {At: -1 << 63}}}
	if merkle.Absent(r, key, wild) {
		t.Error("places that wrap round")
	}
}

func TestProofsAreNewMemory(t *testing.T) {
	l := some(8)
	p, _ := merkle.Prove(l, "k1005")
	q := clone(p)
	p.Leaves[0].Value[0] = 'x'
	for i := range p.Leaves[0].Path {
		for j := range p.Leaves[0].Path[i] {
			p.Leaves[0].Path[i][j] = 0
		}
		p.Leaves[0].Path[i] = append(p.Leaves[0].Path[i], 1, 2, 3)
	}
	for i, x := range q.Leaves[1].Path {
		if !bytes.Equal(x, p.Leaves[1].Path[i]) {
			t.Error("the leaves' ways share memory")
		}
	}
	if string(l[2].Value) != "v2" {
		t.Error("a value is handed out")
	}
}
