package sign_test

import (
	"bytes"
	"crypto/sha256"
	"encoding/binary"
	"strconv"
	"testing"

	"isthmus/api"
	"isthmus/sign"
)

// h: the chapter's H, written a second time, out of the library's SHA-256.
func h(word string, parts ...[]byte) []byte {
	put := func(b, x []byte) []byte {
		x = x[:min(len(x), 65535)]
		return append(binary.BigEndian.AppendUint32(b, uint32(len(x))), x...)
	}
	b := put(nil, []byte(word))
	for _, p := range parts {
		b = put(b, p)
	}
	sum := sha256.Sum256(b)
	return sum[:]
}

func n(x int) []byte {
	return binary.BigEndian.AppendUint64(nil, uint64(x))
}

// model: the values of all chains of a seed, [key][chain][place].
func model(seed []byte) [8][18][16][]byte {
	var all [8][18][16][]byte
	for k := range 8 {
		for c := range 18 {
			all[k][c][0] = h("secret", seed, n(k), n(c))
			for i := range 15 {
				all[k][c][i+1] = h("step", n(c), n(i), all[k][c][i])
			}
		}
	}
	return all
}

func modelTree(all [8][18][16][]byte) (leaves [8][]byte, pairs [4][]byte, halves [2][]byte, root []byte) {
	for k := range 8 {
		parts := [][]byte{n(k)}
		for c := range 18 {
			parts = append(parts, all[k][c][15])
		}
		leaves[k] = h("leaf", parts...)
	}
	for i := range 4 {
		pairs[i] = h("node", leaves[2*i], leaves[2*i+1])
	}
	for i := range 2 {
		halves[i] = h("node", pairs[2*i], pairs[2*i+1])
	}
	return leaves, pairs, halves, h("node", halves[0], halves[1])
}

func TestRootAndSignAsTheChapterSays(t *testing.T) {
	for _, seed := range [][]byte{nil, []byte("ann"), bytes.Repeat([]byte{1}, 70000)} {
		all := model(seed)
		leaves, pairs, halves, root := modelTree(all)
		if got := sign.Root(seed); !bytes.Equal(got, root) {
			t.Fatal("Root", got)
		}
		for k := range 8 {
			msg := []byte("message " + strconv.Itoa(k))
			d := h("signed", root, n(k), msg)[:8]
			var places []int
			s := 0
			for _, x := range d {
				places = append(places, int(x/16), int(x%16))
				s += 15 - int(x/16) + 15 - int(x%16)
			}
			places = append(places, s/16, s%16)
			var want []byte
			for c, p := range places {
				want = append(want, all[k][c][p]...)
			}
			want = append(want, leaves[k^1]...)
			want = append(want, pairs[k/2^1]...)
			want = append(want, halves[k/4^1]...)
			got, e := sign.Sign(seed, k, msg)
			if e != api.OK || !bytes.Equal(got, want) || len(got) != 672 {
				t.Error("Sign", k, e)
			}
			if !sign.Verify(root, k, msg, got) {
				t.Error("Verify", k)
			}
		}
	}
}

func TestSignRefuses(t *testing.T) {
	for _, k := range []int{-1, 8, 9, 1 << 40, -1 << 63} {
		if sig, e := sign.Sign([]byte("s"), k, nil); len(sig) != 0 || e != api.ErrKeys {
			t.Error(k, e)
		}
	}
}

func TestVerifyRefuses(t *testing.T) {
	seed, msg := []byte("seed"), []byte("message")
	root := sign.Root(seed)
	sig, _ := sign.Sign(seed, 5, msg)
	if !sign.Verify(root, 5, msg, sig) {
		t.Fatal("a signature that holds")
	}
	for k := -1; k < 10; k++ {
		if k != 5 && sign.Verify(root, k, msg, sig) {
			t.Error("another key", k)
		}
	}
	if sign.Verify(root, 5+256, msg, sig) || sign.Verify(root, -3, msg, sig) {
		t.Error("a key with the same low bits")
	}
	if sign.Verify(root, 5, []byte("messagf"), sig) || sign.Verify(root, 5, nil, sig) {
		t.Error("another message")
	}
	if sign.Verify(sign.Root([]byte("seee")), 5, msg, sig) || sign.Verify(nil, 5, msg, sig) || sign.Verify(root[:31], 5, msg, sig) || sign.Verify(append(bytes.Clone(root), 0), 5, msg, sig) {
		t.Error("another root")
	}
	if sign.Verify(root, 5, msg, nil) || sign.Verify(root, 5, msg, sig[:671]) || sign.Verify(root, 5, msg, append(bytes.Clone(sig), 0)) {
		t.Error("another length")
	}
	for i := 0; i < len(sig); i += 13 {
		bad := bytes.Clone(sig)
		bad[i] ^= 1
		if sign.Verify(root, 5, msg, bad) {
			t.Error("another byte", i)
		}
	}
}

// Chains and hashes that would hold for a key, were it one.
func TestVerifyOfKeysThatThereArent(t *testing.T) {
	for _, key := range []int{7, 8, 9, 15, -1, -8, 1 << 40, -1 << 63} {
		// all chains are told at their ends' hashes: whatever the digits are, these lead to ends that are known
		var values [18][16][]byte
		parts := [][]byte{n(key)}
		for c := range 18 {
			values[c][0] = h("own", n(c))
			for i := range 15 {
				values[c][i+1] = h("step", n(c), n(i), values[c][i])
			}
			parts = append(parts, values[c][15])
		}
		hash := h("leaf", parts...)
		beside := [][]byte{h("x"), h("y"), h("z")}
		for level, b := range beside {
			if key>>level&1 == 0 {
				hash = h("node", hash, b)
			} else {
				hash = h("node", b, hash)
			}
		}
		d := h("signed", hash, n(key), []byte("m"))[:8]
		var places []int
		s := 0
		for _, x := range d {
			places = append(places, int(x/16), int(x%16))
			s += 30 - int(x/16) - int(x%16)
		}
		places = append(places, s/16, s%16)
		var sig []byte
		for c, p := range places {
			sig = append(sig, values[c][p]...)
		}
		sig = append(sig, bytes.Join(beside, nil)...)
		if sign.Verify(hash, key, []byte("m"), sig) != (key == 7) {
			t.Error(key)
		}
	}
}

func TestLongMessagesCountWithTheirFirstBytes(t *testing.T) {
	seed := []byte("seed")
	long := bytes.Repeat([]byte{3}, api.MaxField+2)
	a, _ := sign.Sign(seed, 0, long)
	b, _ := sign.Sign(seed, 0, long[:api.MaxField])
	if !bytes.Equal(a, b) || !sign.Verify(sign.Root(seed), 0, long, b) {
		t.Error("a long message")
	}
	if c, _ := sign.Sign(seed, 0, long[:api.MaxField-1]); bytes.Equal(a, c) {
		t.Error("a shorter one")
	}
	if !bytes.Equal(sign.Root(long), sign.Root(long[:api.MaxField])) {
		t.Error("a long seed")
	}
}

func TestWhatIsHandedInStays(t *testing.T) {
	seed, msg := bytes.Repeat([]byte{1}, 64), bytes.Repeat([]byte{2}, 64)
	sig, _ := sign.Sign(seed[:9], 3, msg[:9])
	kept := bytes.Clone(sig)
	root := sign.Root(seed[:9])
	sign.Verify(root[:32:32], 3, msg[:9], sig)
	if !bytes.Equal(seed, bytes.Repeat([]byte{1}, 64)) || !bytes.Equal(msg, bytes.Repeat([]byte{2}, 64)) || !bytes.Equal(sig, kept) {
		t.Error("changed")
	}
	root[0]++
	if bytes.Equal(sign.Root(seed[:9]), root) {
		t.Error("the root is shared")
	}
}

func BenchmarkSign(b *testing.B) {
	for range b.N {
		sign.Sign([]byte("seed"), 1, nil)
	}
}
