package limb_test

import (
	"bytes"
	"math/big"
	"math/rand"
	"strings"
	"testing"

	"isthmus/api"
	"isthmus/limb"
)

var most = api.U{1<<64 - 1, 1<<64 - 1, 1<<64 - 1, 1<<64 - 1}

func wide(a api.U) *big.Int {
	n := new(big.Int)
	for i := 3; i >= 0; i-- {
		n.Lsh(n, 64)
		n.Or(n, new(big.Int).SetUint64(a[i]))
	}
	return n
}

func narrow(n *big.Int) (api.U, bool) {
	if n.Sign() < 0 || n.BitLen() > 256 {
		return api.U{}, false
	}
	var a api.U
	mask := new(big.Int).SetUint64(1<<64 - 1)
	for i := range a {
		a[i] = new(big.Int).And(new(big.Int).Rsh(n, uint(64*i)), mask).Uint64()
	}
	return a, true
}

// some: numbers at the edges, and others with limbs that are likely to carry.
func some() []api.U {
	r := rand.New(rand.NewSource(1))
	limbs := []uint64{0, 0, 1, 2, 9, 10, 1<<32 - 1, 1 << 32, 1 << 63, 1<<64 - 2, 1<<64 - 1, 1<<64 - 1}
	l := []api.U{{}, most, {1}, {0, 1}, {0, 0, 1}, {0, 0, 0, 1}, {0, 0, 0, 1 << 63}, {1<<64 - 1}, {10_000_000_000_000_000_000}}
	for range 120 {
		var a api.U
		for i := range a {
			a[i] = limbs[r.Intn(len(limbs))]
			if r.Intn(3) == 0 {
				a[i] = r.Uint64()
			}
		}
		l = append(l, a)
	}
	return l
}

func TestOfCmpZero(t *testing.T) {
	if limb.Of(7) != (api.U{7}) || limb.Of(1<<64-1) != (api.U{1<<64 - 1}) {
		t.Error("Of")
	}
	l := some()
	for _, a := range l {
		if limb.Zero(a) != (wide(a).Sign() == 0) {
			t.Error("Zero", a)
		}
		for _, b := range l {
			if limb.Cmp(a, b) != wide(a).Cmp(wide(b)) {
				t.Error("Cmp", a, b)
			}
		}
	}
}

func TestSumsAndDifferences(t *testing.T) {
	l := some()
	for _, a := range l {
		for _, b := range l {
			want, fits := narrow(new(big.Int).Add(wide(a), wide(b)))
			if got, ok := limb.Add(a, b); got != want || ok != fits {
				t.Error("Add", a, b, got, ok)
			}
			want, fits = narrow(new(big.Int).Sub(wide(a), wide(b)))
			if got, ok := limb.Sub(a, b); got != want || ok != fits {
				t.Error("Sub", a, b, got, ok)
			}
		}
	}
	if got, ok := limb.Add(most, limb.Of(1)); got != (api.U{}) || ok {
		t.Error(got, ok)
	}
	if got, ok := limb.Sub(limb.Of(5), limb.Of(7)); got != (api.U{}) || ok {
		t.Error(got, ok)
	}
}

func TestProductsAndQuotients(t *testing.T) {
	for _, a := range some() {
		for _, k := range []uint64{0, 1, 2, 3, 10, 1 << 32, 1<<63 + 1, 1<<64 - 1} {
			wk := new(big.Int).SetUint64(k)
			want, fits := narrow(new(big.Int).Mul(wide(a), wk))
			if got, ok := limb.Mul(a, k); got != want || ok != fits {
				t.Error("Mul", a, k, got, ok)
			}
			q, r := limb.Div(a, k)
			if k == 0 {
				if q != (api.U{}) || r != 0 {
					t.Error("Div by 0", q, r)
				}
				continue
			}
			wq, wr := new(big.Int).QuoRem(wide(a), wk, new(big.Int))
			if wide(q).Cmp(wq) != 0 || r != wr.Uint64() {
				t.Error("Div", a, k, q, r)
			}
		}
	}
}

func TestPrintAndParse(t *testing.T) {
	for _, a := range some() {
		s := limb.Print(a)
		if s != wide(a).String() {
			t.Error("Print", a, s)
		}
		if b, e := limb.Parse(s); b != a || e != api.OK {
			t.Error("Parse", s, b, e)
		}
	}
	for c := range 256 {
		digit := c >= '0' && c <= '9'
		for _, s := range []string{string([]byte{byte(c)}), string([]byte{'7', byte(c)}), string([]byte{'7', byte(c), '7'})} {
			if _, e := limb.Parse(s); (e == api.OK) != digit {
				t.Errorf("Parse %q: %v", s, e)
			}
		}
	}
	over := new(big.Int).Lsh(big.NewInt(1), 256).String()
	wrong := map[string]api.Errno{
		"": api.ErrNumber, "007": api.ErrNumber, "00": api.ErrNumber, "-1": api.ErrNumber, "+1": api.ErrNumber,
		" 1": api.ErrNumber, "1 ": api.ErrNumber, "1_0": api.ErrNumber, "0x1": api.ErrNumber, "1:": api.ErrNumber,
		"1/": api.ErrNumber, "\u0661": api.ErrNumber, "1a1": api.ErrNumber, over: api.ErrOver, strings.Repeat("9", 78): api.ErrOver,
		"0" + strings.Repeat("9", 78): api.ErrNumber, strings.Repeat("9", 500) + "x": api.ErrNumber,
		strings.Repeat("9", 5000): api.ErrOver,
	}
	for s, want := range wrong {
		if a, e := limb.Parse(s); a != (api.U{}) || e != want {
			t.Errorf("Parse %q: %v %v", s, a, e)
		}
	}
}

func TestBytesAndFrom(t *testing.T) {
	for _, a := range some() {
		b := limb.Bytes(a)
		if want := wide(a).FillBytes(make([]byte, 32)); !bytes.Equal(b, want) {
			t.Error("Bytes", a, b)
		}
		if c, e := limb.From(b); c != a || e != api.OK {
			t.Error("From", b, c, e)
		}
	}
	for _, n := range []int{0, 1, 31, 33, 64} {
		if a, e := limb.From(bytes.Repeat([]byte{1}, n)); a != (api.U{}) || e != api.ErrForm {
			t.Error(n, a, e)
		}
	}
}
