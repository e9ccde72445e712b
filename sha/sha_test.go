package sha_test

import (
	"bytes"
	"crypto/sha256"
	"encoding/hex"
	"math/rand"
	"strings"
	"testing"

	"isthmus/api"
	"isthmus/sha"
	"isthmus/wire"
)

func TestSumExamples(t *testing.T) {
	for s, want := range map[string]string{
		"":    "e3b0c44298fc1c149afbf4c8996fb92427ae41e4649b934ca495991b7852b855",
		"abc": "ba7816bf8f01cfea414140de5dae2223b00361a396177a9cb410ff61f20015ad",
	} {
		if got := hex.EncodeToString(sha.Sum([]byte(s))); got != want {
			t.Error(s, got)
		}
	}
}

// Every length around the edges of blocks, against the library's own.
func TestSumOfAllLengths(t *testing.T) {
	r := rand.New(rand.NewSource(3))
	for n := range 400 {
		b := make([]byte, n)
		r.Read(b)
		want := sha256.Sum256(b)
		if got := sha.Sum(b); !bytes.Equal(got, want[:]) {
			t.Error(n, got)
		}
	}
	b := bytes.Repeat([]byte{0xa5}, 1<<20+3)
	want := sha256.Sum256(b)
	if !bytes.Equal(sha.Sum(b), want[:]) {
		t.Error("a long one")
	}
}

func TestSumLeavesItsArgument(t *testing.T) {
	room := bytes.Repeat([]byte{1}, 128)
	x, y := sha.Sum(room[:5]), sha.Sum(room[:5])
	x[0]++
	if !bytes.Equal(room, bytes.Repeat([]byte{1}, 128)) || bytes.Equal(x, y) {
		t.Error("shared")
	}
}

func TestTagged(t *testing.T) {
	a, b := []byte("left"), []byte{}
	want := sha256.Sum256(wire.B(wire.B(wire.T(nil, "word"), a), b))
	if got := sha.Tagged("word", a, b); !bytes.Equal(got, want[:]) {
		t.Error(got)
	}
	want = sha256.Sum256([]byte{0, 0, 0, 0})
	if got := sha.Tagged(""); !bytes.Equal(got, want[:]) {
		t.Error(got)
	}
	if bytes.Equal(sha.Tagged("w", []byte("ab"), []byte("c")), sha.Tagged("w", []byte("a"), []byte("bc"))) {
		t.Error("parts run together")
	}
	long := bytes.Repeat([]byte{7}, api.MaxField+9)
	if !bytes.Equal(sha.Tagged("w", long), sha.Tagged("w", long[:api.MaxField])) {
		t.Error("a long part isn't cut")
	}
	if !bytes.Equal(sha.Tagged(string(long)), sha.Tagged(string(long[:api.MaxField]))) {
		t.Error("a long word isn't cut")
	}
	room := bytes.Repeat([]byte{1}, 40)
	sha.Tagged("w", room[:3], room[:9])
	if !bytes.Equal(room, bytes.Repeat([]byte{1}, 40)) {
		t.Error("written into a part's room")
	}
}

func TestHex(t *testing.T) {
	if s := sha.Hex([]byte{0, 255, 0x1a}); s != "00ff1a" {
		t.Error(s)
	}
	var all []byte
	for i := range 256 {
		all = append(all, byte(i))
	}
	if sha.Hex(all) != hex.EncodeToString(all) || sha.Hex(nil) != "" || strings.ToLower(sha.Hex(all)) != sha.Hex(all) {
		t.Error("Hex")
	}
}

func BenchmarkSum(b *testing.B) {
	x := make([]byte, 64)
	for range b.N {
		sha.Sum(x)
	}
}
