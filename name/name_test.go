package name_test

import (
	"regexp"
	"strings"
	"testing"

	"isthmus/api"
	"isthmus/name"
)

const long = "abcdefghijklmnopqrstuvwxyz-01234" // 32 bytes

var ident = regexp.MustCompile(`^[a-z][a-z0-9.-]{0,31}\z`)
var denom = regexp.MustCompile(`^(transfer/[a-z][a-z0-9.-]{0,31}/)*[a-z][a-z0-9.-]{0,31}\z`)

func TestIdent(t *testing.T) {
	for _, s := range []string{"chan-0", "a.b", "a", "z9-.", long, "transfer"} {
		if !name.Ident(s) {
			t.Error(s)
		}
	}
	for _, s := range []string{"", "0a", "A", "aB", "-a", ".a", "a/b", "a b", "a_b", "a\x00", "\u00e4", "a\u00e4", long + "x", strings.Repeat("a", 33), "a\n", "`", "{", "a{", "a:", "a`", "a,", "a@", "a[", "a;"} {
		if name.Ident(s) {
			t.Errorf("%q", s)
		}
	}
	for c := range 256 {
		for _, s := range []string{string([]byte{byte(c)}), string([]byte{'a', byte(c)})} {
			if name.Ident(s) != ident.MatchString(s) {
				t.Errorf("%q", s)
			}
		}
	}
}

func TestDenomHopBaseHops(t *testing.T) {
	two := "transfer/chan-0/transfer/chan-1/atom"
	full := strings.Repeat("transfer/"+long+"/", 3) + strings.Repeat("t", 32) // 3 * 42 + 32 = 158
	exact := strings.Repeat("transfer/a/", 12) + strings.Repeat("t", 28)      // 160
	above := strings.Repeat("transfer/a/", 12) + strings.Repeat("t", 29)      // 161
	right := []string{"atom", "transfer", "transfer/chan-0/atom", two, "transfer/transfer/transfer", "transfer/transfer/transfer/transfer/transfer", full, exact, long}
	wrong := []string{"", "transfer/chan-0", "x/chan-0/atom", "transfer//atom", "atom/", "/atom", "transfer/", "transfer/chan-0/", "transfer/chan-0//atom", "transfer/Chan/atom", "transfer/chan-0/Atom", "Transfer/chan-0/atom", "transfer/chan-0/x/y", above, "transfer/" + long + "x/atom", "transfer/chan-0/" + long + "x", "transfers/chan-0/atom", "transfer/chan-0/atom/", "transfer/transfer", strings.Repeat("transfer/a/", 1000) + "a", "atom\n"}
	for i, s := range append(right, wrong...) {
		is := i < len(right)
		if name.Denom(s) != is || is != (denom.MatchString(s) && len(s) <= 160) {
			t.Errorf("Denom %q: %v", s, name.Denom(s))
		}
		hop, rest, ok := name.Hop(s)
		if ok != (is && strings.Contains(s, "/")) || !ok && hop+rest != "" {
			t.Errorf("Hop %q: %q %q %v", s, hop, rest, ok)
		}
		if ok && "transfer/"+hop+"/"+rest != s {
			t.Errorf("Hop %q: %q %q", s, hop, rest)
		}
		wantHops, wantBase := 0, ""
		if is {
			wantHops, wantBase = strings.Count(s, "/")/2, s[strings.LastIndex(s, "/")+1:]
		}
		if name.Hops(s) != wantHops || name.Base(s) != wantBase {
			t.Errorf("%q: %d %q", s, name.Hops(s), name.Base(s))
		}
	}
	if hop, rest, ok := name.Hop(two); hop != "chan-0" || rest != "transfer/chan-1/atom" || !ok || name.Base(two) != "atom" || name.Hops(two) != 2 {
		t.Error(hop, rest, ok)
	}
}

func TestOver(t *testing.T) {
	if s, e := name.Over("chan-2", "atom"); s != "transfer/chan-2/atom" || e != api.OK {
		t.Error(s, e)
	}
	ten := strings.Repeat("transfer/a/", 11) + strings.Repeat("t", 28) // 149: with transfer/a/ it is 160
	if s, e := name.Over("a", ten); s != "transfer/a/"+ten || e != api.OK || !name.Denom(s) {
		t.Error(s, e)
	}
	cases := []struct {
		hop, s string
		want   api.Errno
	}{
		{"", "atom", api.ErrName}, {"A", "atom", api.ErrName}, {"a/b", "atom", api.ErrName}, {"A", "", api.ErrName},
		{long + "x", "atom", api.ErrName},
		{"a", "", api.ErrDenom}, {"a", "x/y", api.ErrDenom}, {"a", "transfer/b", api.ErrDenom}, {"a", ten + "t", api.ErrDenom}, {"ab", ten, api.ErrDenom},
	}
	for _, c := range cases {
		if s, e := name.Over(c.hop, c.s); s != "" || e != c.want {
			t.Errorf("%q %q: %q %v", c.hop, c.s, s, e)
		}
	}
}

func TestHopOfOver(t *testing.T) {
	for _, hop := range []string{"a", "chan-0", "transfer", long} {
		for _, s := range []string{"atom", "transfer", "transfer/chan-0/atom", "transfer/transfer/transfer"} {
			over, e := name.Over(hop, s)
			h, rest, ok := name.Hop(over)
			if e != api.OK || h != hop || rest != s || !ok || name.Hops(over) != name.Hops(s)+1 || name.Base(over) != name.Base(s) {
				t.Error(hop, s, over, e)
			}
		}
	}
}
